import PyProof.Rows.All
import Wide.All
import OpenK.AllK
import Wide.FinOn
import PyProof.EqAt
import PyProof.EqKinds
import PyProof.NeKinds
import PyProof.TupleCall
import PyProof.StrWalks
import PyProof.ConsumeWalk
import PyProof.EnumMake
import PyProof.EnumFor
import PyProof.ListNew
import PyProof.ListRange
import PyProof.Rows.SortWalk
import PyProof.Rows.Range3
import PyProof.Rows.ChunkEnd
import PyProof.Rows.ChunkLeaf
import PyProof.Rows.StrInSeq
import Wide.Txt
import Lean
import PySem.Challenge.RW_laidfields_k13_whole_no_placing_ends_low
set_option Elab.async false
set_option linter.all false
set_option maxRecDepth 100000
namespace L2
open PySem PySem.Spec PyProof.Rows

abbrev Key := Sum Int Str
def keyIs : Key → Value → Bool
  | .inl k, v => Value.isInt k v
  | .inr x, v => Value.isStrOf x v
def keyH (w : World) : Key → Int
  | .inl k => hashInt k
  | .inr x => hashStr w x
theorem keyIs_shape : ∀ {k : Key} {v : Value}, keyIs k v = true → (∃ i t, k = Sum.inl i ∧ v = Value.int i t) ∨ (∃ x t, k = Sum.inr x ∧ v = Value.str x t)
  | .inl i, v, h => by
    obtain ⟨t, e⟩ := Value.isInt_shape (k := i) (v := v) h
    exact .inl ⟨i, t, rfl, e⟩
  | .inr x, v, h => by
    obtain ⟨t, e⟩ := Value.isStrOf_shape (x := x) (v := v) h
    exact .inr ⟨x, t, rfl, e⟩
theorem key_ll (a b : Int) : decide ((Sum.inl a : Key) = Sum.inl b) = (a == b) := by
  by_cases e : a = b
  · subst e; simp
  · have h : ¬ (Sum.inl a : Key) = Sum.inl b := fun q => e (Sum.inl.inj q)
    rw [decide_eq_false h]
    exact (beq_eq_false_iff_ne.mpr e).symm
theorem key_rr (a b : Str) : decide ((Sum.inr a : Key) = Sum.inr b) = decide (a = b) := by
  by_cases e : a = b
  · subst e; simp
  · have h : ¬ (Sum.inr a : Key) = Sum.inr b := fun q => e (Sum.inr.inj q)
    rw [decide_eq_false h, decide_eq_false e]
theorem key_lr (a : Int) (b : Str) : decide ((Sum.inl a : Key) = Sum.inr b) = false := decide_eq_false (fun q => nomatch q)
theorem key_rl (a : Str) (b : Int) : decide ((Sum.inr a : Key) = Sum.inl b) = false := decide_eq_false (fun q => nomatch q)

def mixKind (prog : Program) (w : World) : PySem.KeyKind prog w Key where
  is := keyIs
  hash := keyH w
  inj := fun v a b ha hb => by
    rcases keyIs_shape ha with ⟨i, t, rfl, rfl⟩ | ⟨x, t, rfl, rfl⟩
    · rcases keyIs_shape hb with ⟨j, u, rfl, e⟩ | ⟨y, u, rfl, e⟩
      · injection e with e1 _; rw [e1]
      · exact nomatch e
    · rcases keyIs_shape hb with ⟨j, u, rfl, e⟩ | ⟨y, u, rfl, e⟩
      · exact nomatch e
      · injection e with e1 _; rw [e1]
  byValue := fun k v h => by
    rcases keyIs_shape h with ⟨i, t, rfl, rfl⟩ | ⟨x, t, rfl, rfl⟩ <;> rfl
  pyHash := fun hv h => by
    rcases keyIs_shape hv with ⟨i, t, rfl, rfl⟩ | ⟨x, t, rfl, rfl⟩
    · exact wpAny_pyHash_int h
    · exact wpAny_pyHash_str h
  eqBool := fun hu hv h => by
    rcases keyIs_shape hu with ⟨i, t, rfl, rfl⟩ | ⟨x, t, rfl, rfl⟩
    · rcases keyIs_shape hv with ⟨j, u, rfl, rfl⟩ | ⟨y, u, rfl, rfl⟩
      · rw [key_ll] at h; exact wpAny_eqBool_int h
      · rw [key_lr] at h; exact SeqAt.EqAt.int_str i t y u _ _ _ _ h
    · rcases keyIs_shape hv with ⟨j, u, rfl, rfl⟩ | ⟨y, u, rfl, rfl⟩
      · rw [key_rl] at h; exact SeqAt.EqAt.str_int x t j u _ _ _ _ h
      · rw [key_rr] at h; exact wpAny_eqBool_str h
  «strs» := fun k x t v h => by
    rcases keyIs_shape h with ⟨i, u, rfl, e⟩ | ⟨y, u, rfl, e⟩
    · exact nomatch e
    · injection e with e1 _
      subst e1
      cases v <;> rfl

end L2

namespace L2
open PySem PySem.Spec PyProof.Rows

inductive V where
  | non | bl (b : Bool) | int (i : Int) | str (x : Str) | byt (b : Array UInt8) | flt (b : UInt64) | ref (a : Addr) | ty (n : String)
  deriving DecidableEq

def RelV : V → Value → Prop
  | .non, u => u = Value.none
  | .bl b, u => u = Value.bool b
  | .int i, u => ∃ t, u = Value.int i t
  | .str x, u => ∃ t, u = Value.str x t
  | .byt b, u => ∃ t, u = Value.bytes b t
  | .flt b, u => ∃ t, u = Value.float b t
  | .ref a, u => u = Value.ref a
  | .ty n, u => u = Value.type n

abbrev Vals : List V → List Value → Prop := Paired RelV
theorem Vals.length {xs : List V} {us : List Value} (r : Vals xs us) : xs.length = us.length := Paired.length r
theorem Vals.get : ∀ {xs : List V} {us : List Value} {i : Nat} {x : V}, Vals xs us → xs[i]? = some x → ∃ u, us[i]? = some u ∧ RelV x u
  | _, _, _, _, .nil, e => by simp at e
  | _, _, 0, _, .cons r _, e => by simp at e; subst e; exact ⟨_, rfl, r⟩
  | _, _, i + 1, x, .cons _ t, e => by
    obtain ⟨u, h1, h2⟩ := Vals.get (i := i) (x := x) t (by simpa using e)
    exact ⟨u, by simpa using h1, h2⟩
theorem Vals.set {x : V} {u : Value} (r : RelV x u) : ∀ {xs : List V} {us : List Value} (i : Nat), Vals xs us → Vals (xs.set i x) (us.set i u)
  | _, _, _, .nil => .nil
  | _, _, 0, .cons _ t => .cons r t
  | _, _, i + 1, .cons q t => .cons q (Vals.set r i t)
theorem Vals.append : ∀ {xs ys : List V} {us ws : List Value}, Vals xs us → Vals ys ws → Vals (xs ++ ys) (us ++ ws)
  | _, _, _, _, .nil, s => s
  | _, _, _, _, .cons r t, s => .cons r (Vals.append t s)
theorem Vals.take : ∀ {xs : List V} {us : List Value} (n : Nat), Vals xs us → Vals (xs.take n) (us.take n)
  | _, _, 0, _ => .nil
  | _, _, _ + 1, .nil => .nil
  | _, _, n + 1, .cons r t => .cons r (Vals.take n t)
theorem Vals.drop : ∀ {xs : List V} {us : List Value} (n : Nat), Vals xs us → Vals (xs.drop n) (us.drop n)
  | _, _, 0, r => r
  | _, _, _ + 1, .nil => .nil
  | _, _, n + 1, .cons _ t => Vals.drop n t
def RelO : Option V → Option Value → Prop
  | some v, some u => RelV v u
  | none, none => True
  | _, _ => False
def KV {κ : Type} : List (κ × V) → List (κ × Value) → Prop := Paired fun (p : κ × V) (q : κ × Value) => p.1 = q.1 ∧ RelV p.2 q.2

def kV : Key → V
  | .inl i => .int i
  | .inr x => .str x

inductive HO where
  /-- a list -/
  | lst (xs : List V)
  /-- a tuple (never changes) -/
  | tup (xs : List V)
  /-- a dict whose keys are ints and texts; one whose keys are tuples of ints and texts (the empty one is both) -/
  | dK (kvs : List (Key × V)) | dT (kvs : List (List Key × V))
  /-- a set of ints: its members, its size -/
  | set (S : Int → Bool) (n : Nat)
  /-- an instance of the class at C, its dict at dx, its attributes -/
  | ins (C dx : Addr) (fs : List (Str × V))
  /-- the dict of the instance at x -/
  | own (x : Addr)
  /-- the dict of an exception -/
  | xd (fs : List (Str × V))
  /-- a bound method, f of x -/
  | met (f x : Addr)
  /-- a range object lo, lo + 1, .. below hi -/
  | rng (lo hi : Int)
  /-- a thing that is known to the object (the script; a dict while a loop walks it): read, never written while it is so -/
  | frz (o : Obj) (u : HO)
  /-- a code object's table -/
  | tbl (ps : Array Value)
  /-- any other thing, by what is true of its one object (a def of one's own: SetO a S n := HO.ext fun h => ..) -/
  | ext (φ : Heap → Prop)

abbrev Hp := Addr → Option HO
def upd (H : Hp) (a : Addr) (o : HO) : Hp := fun b => if b = a then some o else H b
theorem upd_same {H : Hp} {a : Addr} {o : HO} : upd H a o a = some o := by unfold upd; rw [if_pos rfl]
theorem upd_ne {H : Hp} {a b : Addr} {o : HO} (h : b ≠ a) : upd H a o b = H b := by unfold upd; rw [if_neg h]
theorem ne_of_none {H : Hp} {a b : Addr} {o : HO} (h : H a = some o) (h' : H b = none) : a ≠ b := by
  intro e; subst e; rw [h] at h'; cases h'

section
variable (P : Program) (w : World)
def ObjOk (H : Hp) (h : Heap) (a : Addr) : HO → Prop
  | .lst xs => xs.length ≤ sizeLine ∧ ∃ (its : List Value) (n : Nat), Vals xs its ∧ h.get? a = some { cls := .type "list", data := .seq its.toArray n }
  | .tup xs => xs.length ≤ sizeLine ∧ ∃ its : List Value, Vals xs its ∧ IsTup h a its.toArray
  | .dK kvs => kvs.length ≤ sizeLine ∧ (a == sysModules) = false ∧ ∃ vs, KV kvs vs ∧ h.DictOf (mixKind P w) a vs
  | .dT kvs => kvs.length ≤ sizeLine ∧ (a == sysModules) = false ∧ ∃ xs : List (List Key × Addr × Value),
      Paired (fun (p : List Key × V) (q : List Key × Addr × Value) => p.1 = q.1 ∧ H q.2.1 = some (.tup (p.1.map kV)) ∧ RelV p.2 q.2.2) kvs xs ∧
      ∃ o es ep, h.get? a = some o ∧ o.ExactDict ∧ o.data = .dict es ep ∧ es.toList = xs.map (entryOfKey (tupleKind (mixKind P w))) ∧ (xs.map (·.1)).Nodup
  | .set S n => h.SetOf (intKind P w) a S n
  | .ins C dx fs => H dx = some (.own a) ∧ fs.length ≤ 1000 ∧ dx ≠ a ∧ h.get? a = some (PySem.W.instObj C dx) ∧
      ∃ mA, h.Ns1 dx mA ∧ (∀ f, RelO (fs.lookup f) (mA f)) ∧ PySem.Within mA (fs.map (·.1))
  | .own _ => ∃ o, h.get? a = some o
  | .xd fs => ∃ mA, h.Ns1 a mA ∧ ∀ f, RelO (fs.lookup f) (mA f)
  | .rng lo hi => ∃ t u v, h.get? a = some { cls := .type "range", data := .fields #[.int lo t, .int hi u, .int 1 v] }
  | .frz o u => h.get? a = some o ∧ ObjOk H h a u
  | .tbl ps => h.get? a = some { cls := .none, data := .fields ps }
  | .met f x => h.get? a = some (PySem.W.methodObj (.ref f) (.ref x))
  | .ext φ => φ h ∧ (∃ o, h.get? a = some o) ∧ ∀ h1 h2 : Heap, φ h1 → (∀ o, h1.get? a = some o → h2.get? a = some o) → φ h2
def HOk (H : Hp) (h : Heap) : Prop := ∀ a o, H a = some o → ObjOk P w H h a o
end

section
variable {P : Program} {w : World} {H H' : Hp} {h h' : Heap} {a : Addr} {o : HO}
theorem ObjOk.lt (x : ObjOk P w H h a o) : a < h.objs.size := by
  cases o with
  | lst xs => obtain ⟨_, _, _, _, e⟩ := x; exact Heap.lt_size e
  | tup xs => obtain ⟨_, _, _, p⟩ := x; exact p.lt
  | dK kvs => obtain ⟨_, _, _, _, o, _, _, e, _⟩ := x; exact Heap.lt_size e
  | dT kvs => obtain ⟨_, _, _, _, o, _, _, e, _⟩ := x; exact Heap.lt_size e
  | set S n => obtain ⟨o, _, _, _, e, _⟩ := x; exact Heap.lt_size e
  | ins C dx fs => obtain ⟨_, _, _, e, _⟩ := x; exact Heap.lt_size e
  | own y => obtain ⟨_, e⟩ := x; exact Heap.lt_size e
  | xd fs => obtain ⟨_, ⟨_, _, _, e, _⟩, _⟩ := x; exact Heap.lt_size e
  | rng lo hi => obtain ⟨_, _, _, e⟩ := x; exact Heap.lt_size e
  | frz ob u => obtain ⟨e, _⟩ := x; exact Heap.lt_size e
  | tbl ps => exact Heap.lt_size (show h.get? a = some _ from x)
  | met f y => exact Heap.lt_size (show h.get? a = some _ from x)
  | ext φ => obtain ⟨_, ⟨_, e⟩, _⟩ := x; exact Heap.lt_size e
theorem Paired.mapP {α β : Type} {F G : α → β → Prop} : ∀ {l₁ : List α} {l₂ : List β}, Paired F l₁ l₂ → (∀ a b, F a b → G a b) → Paired G l₁ l₂
  | _, _, .nil, _ => .nil
  | _, _, .cons r t, f => .cons (f _ _ r) (Paired.mapP t f)
theorem ObjOk.stay (x : ObjOk P w H h a o) (k : ∀ b u, (b = a ∨ H b = some (.own a)) → h.get? b = some u → h'.get? b = some u)
    (ho : ∀ b, H b = some (.own a) → H' b = some (.own a)) (ht : ∀ b xs, H b = some (.tup xs) → H' b = some (.tup xs)) : ObjOk P w H' h' a o := by
  induction o with
  | lst xs => obtain ⟨z, its, n, r, e⟩ := x; exact ⟨z, its, n, r, k _ _ (.inl rfl) e⟩
  | tup xs => obtain ⟨z, its, r, ob, e, c⟩ := x; exact ⟨z, its, r, ob, k _ _ (.inl rfl) e, c⟩
  | dK kvs => obtain ⟨z, y, vs, r, ob, es, ep, e, c⟩ := x; exact ⟨z, y, vs, r, ob, es, ep, k _ _ (.inl rfl) e, c⟩
  | dT kvs =>
    obtain ⟨z, y, xs, r, ob, es, ep, e, c⟩ := x
    exact ⟨z, y, xs, Paired.mapP r fun p q z => ⟨z.1, ht _ _ z.2.1, z.2.2⟩, ob, es, ep, k _ _ (.inl rfl) e, c⟩
  | set S n => obtain ⟨ob, es, ep, t, e, c⟩ := x; exact ⟨ob, es, ep, t, k _ _ (.inl rfl) e, c⟩
  | ins C dx fs =>
    obtain ⟨d, z, ne, e, mA, ⟨od, es, ep, e2, c⟩, r⟩ := x
    exact ⟨ho _ d, z, ne, k _ _ (.inl rfl) e, mA, ⟨od, es, ep, k _ _ (.inr d) e2, c⟩, r⟩
  | own y => obtain ⟨ob, e⟩ := x; exact ⟨ob, k _ _ (.inl rfl) e⟩
  | xd fs => obtain ⟨mA, ⟨od, es, ep, e, c⟩, r⟩ := x; exact ⟨mA, ⟨od, es, ep, k _ _ (.inl rfl) e, c⟩, r⟩
  | rng lo hi => obtain ⟨t, u, v, e⟩ := x; exact ⟨t, u, v, k _ _ (.inl rfl) e⟩
  | frz ob u ih => obtain ⟨e, q⟩ := x; exact ⟨k _ _ (.inl rfl) e, ih q⟩
  | tbl ps =>
    have e : h.get? a = some { cls := .none, data := .fields ps } := x
    show h'.get? a = some { cls := .none, data := .fields ps }
    exact k a _ (.inl rfl) e
  | met f y =>
    have e : h.get? a = some (PySem.W.methodObj (.ref f) (.ref y)) := x
    show h'.get? a = some (PySem.W.methodObj (.ref f) (.ref y))
    exact k a _ (.inl rfl) e
  | ext φ => obtain ⟨p, ⟨o, e⟩, st⟩ := x; exact ⟨st _ _ p fun o q => k _ _ (.inl rfl) q, ⟨o, k _ _ (.inl rfl) e⟩, st⟩
theorem HOk.lt (x : HOk P w H h) (e : H a = some o) : a < h.objs.size := (x a o e).lt
theorem HOk.fresh (x : HOk P w H h) (e : h.objs.size ≤ a) : H a = none := by
  cases q : H a with
  | none => rfl
  | some u => exact absurd (Nat.lt_of_lt_of_le (x.lt q) e) (Nat.lt_irrefl _)
theorem HOk.kept (x : HOk P w H h) (k : ∀ b u, h.get? b = some u → h'.get? b = some u) : HOk P w H h' := fun a o e =>
  (x a o e).stay (fun b u _ q => k b u q) (fun _ q => q) fun _ _ q => q
theorem HOk.laid (x : HOk P w H h) (k : ∀ b u, h.get? b = some u → h'.get? b = some u) (hp : h.objs.size ≤ a) (new : ObjOk P w (upd H a o) h' a o) : HOk P w (upd H a o) h' := fun b u e => by
  have hn := x.fresh hp
  by_cases hb : b = a
  · subst hb; rw [upd_same] at e; cases e; exact new
  · rw [upd_ne hb] at e
    exact (x b u e).stay (fun c v _ q => k c v q) (fun c q => by rw [upd_ne (ne_of_none q hn)]; exact q) fun c xs q => by rw [upd_ne (ne_of_none q hn)]; exact q
end

def Rd (H : Hp) (a : Addr) (u : HO) : Prop := H a = some u ∨ ∃ o, H a = some (.frz o u)
theorem Rd.ok {P : Program} {w : World} {H : Hp} {h : Heap} {a : Addr} {u : HO} (r : Rd H a u) (x : HOk P w H h) : ObjOk P w H h a u := by
  rcases r with r | ⟨o, r⟩
  · exact x a u r
  · obtain ⟨_, q⟩ := x a _ r
    exact q
def Mut : Option HO → Prop
  | some (.lst _) => True
  | some (.dK _) => True
  | some (.dT _) => True
  | some (.set _ _) => True
  | some (.ins _ _ _) => True
  | some (.ext _) => True
  | _ => False
section
variable {P : Program} {w : World} {H : Hp} {h h' : Heap} {x e : Addr} {o' : HO}
theorem HOk.write (ok : HOk P w H h) (mu : Mut (H x)) (he : e = x ∨ H e = some (.own x)) (k : ∀ b u, b ≠ e → h.get? b = some u → h'.get? b = some u) (heo : ∃ u, h'.get? e = some u)
    (new : ObjOk P w (upd H x o') h' x o') : HOk P w (upd H x o') h' := fun b u q => by
  have nown : ∀ c y, H c = some (.own y) → c ≠ x := fun c y r z => by subst z; rw [r] at mu; exact mu
  have ntup : ∀ c xs, H c = some (.tup xs) → c ≠ x := fun c xs r z => by subst z; rw [r] at mu; exact mu
  by_cases hb : b = x
  · subst hb; rw [upd_same] at q; cases q; exact new
  · rw [upd_ne hb] at q
    by_cases hbe : b = e
    · have q' : H b = some (.own x) := by
        rcases he with z | z
        · exact absurd (hbe.trans z) hb
        · rw [hbe]; exact z
      rw [q] at q'; cases q'
      obtain ⟨v, hv⟩ := heo
      exact ⟨v, by rw [hbe]; exact hv⟩
    · refine (ok b u q).stay (fun c v hc r => k c v ?_ r) (fun c r => by rw [upd_ne (nown c b r)]; exact r) fun c xs r => by rw [upd_ne (ntup c xs r)]; exact r
      rcases hc with rfl | hc
      · exact hbe
      · rintro rfl
        rcases he with z | z
        · exact nown c b hc z
        · rw [hc] at z; cases z; exact hb rfl
end

structure Un (fs ex : List Addr) (H H' : Hp) (h h' : Heap) : Prop where
  keep : ∀ b o, h.get? b = some o → H b = none → b ∉ fs → b ∉ ex → h'.get? b = some o
  slot : ∀ b o, h.get? b = some o → H b = none → b ∈ fs → b ∉ ex → ∃ sl, h'.get? b = some { o with slots := sl }
  free : ∀ b o, h.get? b = some o → H b = none → b ∉ ex → H' b = none
  there : ∀ b o, h.get? b = some o → b ∉ ex → ∃ o', h'.get? b = some o'
  tups : ∀ b xs, H b = some (.tup xs) → H' b = some (.tup xs)
  frzs : ∀ b o u, H b = some (.frz o u) → H' b = some (.frz o u)
  tbls : ∀ b ps, H b = some (.tbl ps) → ∃ more, H' b = some (.tbl (ps ++ more))
section
variable {fs fs' ex ex' : List Addr} {H H1 H2 : Hp} {h h1 h2 h' : Heap} {a x e : Addr} {o : HO}
theorem Un.any (u : Un fs ex H H1 h h1) {b : Addr} {ob : Obj} (q : h.get? b = some ob) (n : H b = none) (hx : b ∉ ex) : ∃ sl, h1.get? b = some { ob with slots := sl } := by
  by_cases hb : b ∈ fs
  · exact u.slot b ob q n hb hx
  · exact ⟨ob.slots, u.keep b ob q n hb hx⟩
theorem Un.kept (k : ∀ b u, h.get? b = some u → h'.get? b = some u) : Un fs ex H H h h' :=
  ⟨fun b ob q _ _ _ => k b ob q, fun b ob q _ _ _ => ⟨ob.slots, k b ob q⟩, fun _ _ _ n _ => n, fun b ob q _ => ⟨ob, k b ob q⟩, fun _ _ q => q, fun _ _ _ q => q, fun _ ps q => ⟨#[], by rw [q]; simp⟩⟩
theorem Un.refl : Un fs ex H H h h := Un.kept fun _ _ q => q
theorem Un.laid (k : ∀ b u, h.get? b = some u → h'.get? b = some u) (hp : h.objs.size ≤ a) (hn : H a = none) : Un fs ex H (upd H a o) h h' where
  keep := fun b u q _ _ _ => k b u q
  slot := fun b u q _ _ _ => ⟨u.slots, k b u q⟩
  free := fun b u q n _ => by rw [upd_ne (Nat.ne_of_lt (Nat.lt_of_lt_of_le (Heap.lt_size q) hp))]; exact n
  there := fun b u q _ => ⟨u, k b u q⟩
  tups := fun b xs q => by rw [upd_ne (ne_of_none q hn)]; exact q
  frzs := fun b u xs q => by rw [upd_ne (ne_of_none q hn)]; exact q
  tbls := fun b ps q => ⟨#[], by rw [upd_ne (ne_of_none q hn), q]; simp⟩
theorem Un.write (mu : Mut (H x)) (he : e = x ∨ H e = some (.own x)) (k : ∀ b u, b ≠ e → h.get? b = some u → h'.get? b = some u) (heo : ∃ u, h'.get? e = some u) : Un fs ex H (upd H x o) h h' := by
  have hx : ∀ b, H b = none → b ≠ x := fun b n z => by subst z; rw [n] at mu; exact mu
  have hb : ∀ b, H b = none → b ≠ e := fun b n z => by
    subst z
    rcases he with r | r
    · exact hx b n r
    · rw [n] at r; cases r
  have hm : ∀ b u, H b = some u → ¬ Mut (some u) → b ≠ x := fun b u q nm z => by subst z; rw [q] at mu; exact nm mu
  refine ⟨fun b u q n _ _ => k b u (hb b n) q, fun b u q n _ _ => ⟨u.slots, k b u (hb b n) q⟩, fun b u q n _ => by rw [upd_ne (hx b n)]; exact n, fun b u q _ => ?_,
    fun b xs q => by rw [upd_ne (hm b _ q fun z => z)]; exact q, fun b u xs q => by rw [upd_ne (hm b _ q fun z => z)]; exact q, fun b ps q => ⟨#[], by rw [upd_ne (hm b _ q fun z => z), q]; simp⟩⟩
  by_cases hbe : b = e
  · subst hbe; exact heo
  · exact ⟨u, k b u hbe q⟩
end

def trk (h : Heap) (H : Hp) : List Addr := (List.range h.objs.size).filter fun a => (H a).isSome
def hidT (h : Heap) (H : Hp) : Heap := PySem.W.hideAll h (trk h H)
theorem hidT_size (h : Heap) (H : Hp) : (hidT h H).objs.size = h.objs.size := PySem.W.hideAll_size _ _
theorem hidT_get {h : Heap} {H : Hp} {b : Addr} {o : Obj} (e : h.get? b = some o) (n : H b = none) : (hidT h H).get? b = some o :=
  PySem.W.hideAll_get _ e fun hm => by
    have q : (H b).isSome = true := (List.mem_filter.mp hm).2
    rw [n] at q; simp at q
theorem of_hidT {h : Heap} {H : Hp} {b : Addr} {o : Obj} (e : (hidT h H).get? b = some o) : h.get? b = some o ∧ H b = none := by
  have e' : h.get? b = some o := PySem.W.of_hideAll (trk h H) e
  refine ⟨e', ?_⟩
  cases q : H b with
  | none => rfl
  | some x =>
    have hm : b ∈ trk h H := List.mem_filter.mpr ⟨List.mem_range.mpr (Heap.lt_size e'), by simp [q]⟩
    have z : (hidT h H).get? b = none := PySem.W.hideAll_none (trk h H) hm
    rw [z] at e; cases e

def allNews (g h : Heap) (L : Addr) : List (Addr × Obj) := (List.range h.objs.size).filterMap fun a => if a = L ∨ (g.get? a).isSome = true then none else (h.get? a).map fun o => (a, o)
def rest (g h : Heap) (L d : Addr) : List (Addr × Obj) := (allNews g h L).filter fun p => decide (p.1 ≠ d)
end L2

namespace L2
open PySem PySem.Spec PyProof.Rows

structure Mod (K : PySem.W.Frag) (mg : Str → Option Value) (base : Heap) : Prop where
  kin : K.In base
  glob : base.Ns mainGlobals mg
  blt : ∃ mb, base.Ns builtinsNs mb ∧ ∀ x : Str, x ≠ "__name__" → mb x = bootBuiltins x
  nolimit : base.NoLimit

structure Cx where
  prog : Program
  w : World
  K : PySem.W.Frag
  mg : Str → Option Value
  base : Heap
  A : Around
  N : List Str
  s₀ : Shared
  H₀ : Hp
  env : Env
  outer : List Env
  stack : List Env
  ex : List Addr
  fn : Str → Bool
  calm : Bool
  pn : List (Addr × Obj)
  xe : Value → Shared → Prop
def frs (l : List Env) : List Addr := l.filterMap (·.frame)
abbrev Cx.fs (X : Cx) : List Addr := frs X.outer

def Vis (sc : Scope) (x : Str) : Prop := sc.names.lookup x = some .local ∨ sc.names.lookup x = some .cell ∨ sc.names.lookup x = some .free
def Loc (sc : Scope) (x : Str) : Prop := sc.names.lookup x = some .local ∨ sc.names.lookup x = some .cell
def Look (env : Env) (h : Heap) (m : Str → Option Value) (x : Str) (u : Value) : Prop :=
  (env.kindOf x = some .local ∧ m x = some u) ∨ ((env.kindOf x = some .cell ∨ env.kindOf x = some .free) ∧ ∃ c, env.cells.lookup x = some c ∧ h.IsCell c (some u))

structure Cx.Ok (X : Cx) : Prop where
  mod : Mod X.K X.mg X.base
  kind : X.env.scope.kind = .function
  glob : X.env.globals = mainGlobals
  blt : X.env.builtins = builtinsNs
  above : X.s₀.heap.objs.size ≤ X.env.locals
  inj : ∀ x y c, X.env.cells.lookup x = some c → X.env.cells.lookup y = some c → x = y
  has : ∀ x, (X.env.kindOf x = some .cell ∨ X.env.kindOf x = some .free) → ∃ c, X.env.cells.lookup x = some c
  cab : ∀ x c, X.fn x = true → X.env.cells.lookup x = some c → X.s₀.heap.objs.size ≤ c
  hd : X.calm = true → X.A.handled = none
  frames : X.A.frames = some X.stack
  stk : X.stack = X.outer ∨ (X.stack = X.env :: X.outer ∧ X.env.frame = some X.env.locals)
  exf : ∀ b ∈ X.ex, b ≠ X.env.locals ∧ ∀ x c, X.env.cells.lookup x = some c → c ≠ b
  bs : ∀ b o, X.base.get? b = some o → X.s₀.heap.get? b = some o ∧ X.H₀ b = none
  bsz : X.base.objs.size ≤ X.s₀.heap.objs.size
  noex : ∀ b o, X.base.get? b = some o → b ∉ X.ex
  exfs : ∀ b ∈ X.ex, b ∉ X.fs
  funs : X.s₀.heap.FunFrames X.base X.outer
  frf : ∀ b ∈ X.fs, X.H₀ b = none

structure Inv (X : Cx) (pins : List (Addr × Obj)) (σ : List (Option V)) (H : Hp) (s : Shared) : Prop where
  ok : X.Ok
  os : s.os = X.s₀.os
  bare : AllBare s.gens
  base : Un X.fs X.ex X.H₀ H X.s₀.heap s.heap
  loc : ∃ m, s.heap.Ns X.env.locals m ∧ ∀ (i : Nat) (x : Str) (v : V), X.N[i]? = some x → σ[i]? = some (some v) → Vis X.env.scope x → ∃ u, RelV v u ∧ Look X.env s.heap m x u
  cell : ∀ x c, X.env.cells.lookup x = some c → ∃ v, s.heap.IsCell c v
  free : H X.env.locals = none
  freeC : ∀ x c, X.env.cells.lookup x = some c → H c = none
  pin : ∀ p ∈ X.pn ++ pins, s.heap.get? p.1 = some p.2 ∧ H p.1 = none ∧ p.1 ≠ X.env.locals ∧ p.1 ∉ X.fs ∧ ∀ v, p.2.data ≠ .cell v
  hok : HOk X.prog X.w H s.heap
  len : σ.length = X.N.length

section
variable {X : Cx} {pins : List (Addr × Obj)} {σ : List (Option V)} {H H' : Hp} {s : Shared} {h' : Heap}

theorem Cx.Ok.nofr (ok : X.Ok) {b : Addr} {o : Obj} (e : X.base.get? b = some o) : b ∉ X.fs := fun hb => by
  have := (ok.funs.mem hb).1
  rw [e] at this; cases this
theorem Inv.bs (I : Inv X pins σ H s) : ∀ b o, X.base.get? b = some o → s.heap.get? b = some o ∧ H b = none := fun b o e =>
  ⟨I.base.keep b o (I.ok.bs b o e).1 (I.ok.bs b o e).2 (I.ok.nofr e) (I.ok.noex b o e), I.base.free b o (I.ok.bs b o e).1 (I.ok.bs b o e).2 (I.ok.noex b o e)⟩
theorem Inv.bk (I : Inv X pins σ H s) : ∀ b o, X.base.get? b = some o → s.heap.get? b = some o := fun b o e => (I.bs b o e).1
theorem Inv.mod (I : Inv X pins σ H s) : Mod X.K X.mg X.base := I.ok.mod
theorem Inv.kIn (I : Inv X pins σ H s) : X.K.In s.heap := I.ok.mod.kin.keeps I.bk
theorem Inv.fr (I : Inv X pins σ H s) : ∃ m, Fr X.base X.env.locals s.heap m :=
  let ⟨m, hn, _⟩ := I.loc
  ⟨m, hn, I.bk, Nat.le_trans I.ok.bsz I.ok.above⟩
theorem Inv.lt (I : Inv X pins σ H s) : X.env.locals < s.heap.objs.size := let ⟨_, hn, _⟩ := I.loc; hn.lt
theorem Inv.sz (I : Inv X pins σ H s) : X.s₀.heap.objs.size ≤ s.heap.objs.size := Nat.le_trans I.ok.above (Nat.le_of_lt I.lt)
theorem Inv.nofs (I : Inv X pins σ H s) {a : Addr} (h : s.heap.objs.size ≤ a) : a ∉ X.fs := fun hb => by
  obtain ⟨_, o, ho, _⟩ := I.ok.funs.mem hb
  exact absurd (Nat.lt_of_lt_of_le (Heap.lt_size ho) (Nat.le_trans I.sz h)) (Nat.lt_irrefl _)
theorem Inv.cne (I : Inv X pins σ H s) : ∀ x c, X.env.cells.lookup x = some c → c ≠ X.env.locals := fun x c e z => by
  obtain ⟨v, o, ho, hd⟩ := I.cell x c e
  obtain ⟨m, ⟨o', es, ep, ho', hd', _⟩, _⟩ := I.loc
  rw [z, ho'] at ho; cases ho; rw [hd'] at hd; cases hd
theorem Inv.funs (I : Inv X pins σ H s) : s.heap.FunFrames X.base X.outer := by
  have all : ∀ (l : List Env), (∀ b ∈ frs l, b ∈ X.fs) → X.s₀.heap.FunFrames X.base l → s.heap.FunFrames X.base l := by
    intro l
    induction l with
    | nil => intro _ _; trivial
    | cons env r ih =>
      intro hs hl
      obtain ⟨hk, ⟨L, o, hf, hn, ho, hd⟩, hr⟩ := hl
      have hL : L ∈ X.fs := hs L (by unfold frs; rw [List.filterMap_cons, hf]; exact List.mem_cons_self)
      obtain ⟨sl, e⟩ := I.base.slot L o ho (I.ok.frf L hL) hL fun z => I.ok.exfs L z hL
      exact ⟨hk, ⟨L, _, hf, hn, e, hd⟩, ih (fun b hb => hs b (by unfold frs; rw [List.filterMap_cons, hf]; exact List.mem_cons_of_mem _ hb)) hr⟩
  exact all X.outer (fun _ hb => hb) I.ok.funs

theorem Inv.stack (I : Inv X pins σ H s) : s.heap.FunFrames X.base X.stack := by
  rcases I.ok.stk with e | ⟨e, hf⟩
  · rw [e]; exact I.funs
  · rw [e]
    obtain ⟨m, hn, _⟩ := I.loc
    refine .cons (by rw [I.ok.kind]; decide) hf hn ?_ I.funs
    exact Heap.get?_none_of_le (Nat.le_trans I.ok.bsz I.ok.above)
theorem Inv.stkSub (I : Inv X pins σ H s) : ∀ b ∈ frs X.stack, b ∈ X.env.locals :: X.fs := fun b hb => by
  rcases I.ok.stk with e | ⟨e, hf⟩
  · rw [e] at hb; exact List.mem_cons_of_mem _ hb
  · rw [e] at hb
    unfold frs at hb
    rw [List.filterMap_cons, hf] at hb
    exact hb
theorem Inv.stkFree (I : Inv X pins σ H s) : ∀ b ∈ frs X.stack, H b = none := fun b hb => by
  rcases List.mem_cons.mp (I.stkSub b hb) with e | hb
  · rw [e]; exact I.free
  · obtain ⟨_, o, ho, _⟩ := I.ok.funs.mem hb
    exact I.base.free b o ho (I.ok.frf b hb) fun z => I.ok.exfs b z hb

theorem Inv.step {g' : Array GenState} {t' : Nat} {d' : Drawn} {ch : List Addr} (I : Inv X pins σ H s)
    (hch : ∀ b ∈ ch, (b ∈ X.ex ∨ X.s₀.heap.objs.size ≤ b) ∧ b ≠ X.env.locals ∧ (∀ x c, X.env.cells.lookup x = some c → c ≠ b) ∧ ∀ p ∈ X.pn ++ pins, p.1 ≠ b)
    (keep : ∀ b o, b ≠ X.env.locals → b ∉ X.fs → b ∉ ch → s.heap.get? b = some o → H b = none → h'.get? b = some o)
    (slot : ∀ b o, b ≠ X.env.locals → b ∈ X.fs → b ∉ ch → s.heap.get? b = some o → H b = none → ∃ sl, h'.get? b = some { o with slots := sl }) (free : ∀ b o, b ∉ ch → s.heap.get? b = some o → H b = none → H' b = none)
    (there : ∀ b o, b ∉ ch → s.heap.get? b = some o → ∃ o', h'.get? b = some o')
    (tups : ∀ b xs, H b = some (.tup xs) → H' b = some (.tup xs)) (frzs : ∀ b o u, H b = some (.frz o u) → H' b = some (.frz o u)) (tbls : ∀ b ps, H b = some (.tbl ps) → ∃ more, H' b = some (.tbl (ps ++ more)))
    (ns : ∀ m, s.heap.Ns X.env.locals m → h'.Ns X.env.locals m) (hok : HOk X.prog X.w H' h') (hg : AllBare g') :
    Inv X pins σ H' { s with heap := h', gens := g', drawn := d', toks := t' } := by
  have neL : ∀ b o, X.s₀.heap.get? b = some o → b ≠ X.env.locals := fun b o e => Nat.ne_of_lt (Nat.lt_of_lt_of_le (Heap.lt_size e) I.ok.above)
  have neC : ∀ b o, X.s₀.heap.get? b = some o → b ∉ X.ex → b ∉ ch := fun b o e hx hb => by
    rcases (hch b hb).1 with z | z
    · exact hx z
    · exact absurd (Nat.lt_of_lt_of_le (Heap.lt_size e) z) (Nat.lt_irrefl _)
  have cellK : ∀ x c, X.env.cells.lookup x = some c → ∀ v, s.heap.IsCell c v → h'.IsCell c v := fun x c e v ⟨o, ho, hd⟩ => by
    have nch : c ∉ ch := fun z => (hch c z).2.2.1 x c e rfl
    by_cases hc : c ∈ X.fs
    · obtain ⟨sl, q⟩ := slot c o (I.cne x c e) hc nch ho (I.freeC x c e)
      exact ⟨_, q, hd⟩
    · exact ⟨o, keep c o (I.cne x c e) hc nch ho (I.freeC x c e), hd⟩
  refine ⟨I.ok, I.os, hg, ⟨fun b o e n hb hx => ?_, fun b o e n hb hx => ?_, fun b o e n hx => ?_, fun b o e hx => ?_, fun b xs e => tups b xs (I.base.tups b xs e), fun b o xs e => frzs b o xs (I.base.frzs b o xs e), fun b ps e => ?_⟩, ?_, fun x c e => ?_, ?_, fun x c e => ?_, fun p hp => ?_, hok, I.len⟩
  · exact keep b o (neL b o e) hb (neC b o e hx) (I.base.keep b o e n hb hx) (I.base.free b o e n hx)
  · obtain ⟨sl, e1⟩ := I.base.slot b o e n hb hx
    obtain ⟨sl', e2⟩ := slot b _ (neL b o e) hb (neC b o e hx) e1 (I.base.free b o e n hx)
    exact ⟨sl', e2⟩
  · obtain ⟨o', e1⟩ := I.base.there b o e hx
    exact free b o' (neC b o e hx) e1 (I.base.free b o e n hx)
  · obtain ⟨o', e1⟩ := I.base.there b o e hx
    exact there b o' (neC b o e hx) e1
  · obtain ⟨m1, e1⟩ := I.base.tbls b ps e
    obtain ⟨m2, e2⟩ := tbls b _ e1
    exact ⟨m1 ++ m2, by rw [e2, Array.append_assoc]⟩
  · obtain ⟨m, hn, hl⟩ := I.loc
    refine ⟨m, ns m hn, fun i x v e1 e2 e3 => ?_⟩
    obtain ⟨u, r, l⟩ := hl i x v e1 e2 e3
    refine ⟨u, r, ?_⟩
    rcases l with l | ⟨k, c, e, z⟩
    · exact .inl l
    · exact .inr ⟨k, c, e, cellK x c e _ z⟩
  · obtain ⟨v, z⟩ := I.cell x c e
    exact ⟨v, cellK x c e v z⟩
  · obtain ⟨m, ⟨o, _, _, ho, _⟩, _⟩ := I.loc
    exact free _ o (fun z => (hch _ z).2.1 rfl) ho I.free
  · obtain ⟨v, o, ho, hd⟩ := I.cell x c e
    exact free c o (fun z => (hch c z).2.2.1 x c e rfl) ho (I.freeC x c e)
  · obtain ⟨e, n, ne, nf, d⟩ := I.pin p hp
    have nch : p.1 ∉ ch := fun z => (hch p.1 z).2.2.2 p hp rfl
    exact ⟨keep p.1 p.2 ne nf nch e n, free p.1 p.2 nch e n, ne, nf, d⟩
theorem Inv.un {t' : Nat} (I : Inv X pins σ H s) (u : Un X.fs [] H H' s.heap h') (hok : HOk X.prog X.w H' h') : Inv X pins σ H' { s with heap := h', toks := t' } := by
  obtain ⟨m, ⟨o, es, ep, ho, r⟩, _⟩ := id I.loc
  obtain ⟨sl, hL⟩ := u.any ho I.free (by simp)
  exact I.step (g' := s.gens) (d' := s.drawn) (ch := []) (fun _ z => nomatch z) (fun b o _ hb _ e n => u.keep b o e n hb (by simp)) (fun b o _ hb _ e n => u.slot b o e n hb (by simp)) (fun b o _ e n => u.free b o e n (by simp)) (fun b o _ e => u.there b o e (by simp)) u.tups u.frzs u.tbls (fun m' hm => by
    obtain ⟨o', es', ep', ho', r'⟩ := hm
    rw [ho] at ho'; cases ho'
    exact ⟨_, es', ep', hL, r'⟩) hok I.bare
theorem Inv.call {g' : Array GenState} {t' : Nat} {d' : Drawn} {ch : List Addr} (I : Inv X pins σ H s) (u : Un (frs X.stack) ch H H' s.heap h') (hok : HOk X.prog X.w H' h') (hg : AllBare g')
    (hch : ∀ b ∈ ch, (b ∈ X.ex ∨ X.s₀.heap.objs.size ≤ b) ∧ b ≠ X.env.locals ∧ (∀ x c, X.env.cells.lookup x = some c → c ≠ b) ∧ ∀ p ∈ X.pn ++ pins, p.1 ≠ b) :
    Inv X pins σ H' { s with heap := h', gens := g', drawn := d', toks := t' } := by
  obtain ⟨m, ⟨o, es, ep, ho, r⟩, _⟩ := id I.loc
  obtain ⟨sl, hL⟩ := u.any ho I.free fun z => (hch _ z).2.1 rfl
  exact I.step (ch := ch) hch (fun b o hL hb hc e n => u.keep b o e n (fun z => (List.mem_cons.mp (I.stkSub b z)).elim hL hb) hc) (fun b o _ _ hc e n => u.any e n hc) (fun b o hc e n => u.free b o e n hc) (fun b o hc e => u.there b o e hc) u.tups u.frzs u.tbls (fun m' hm => by
    obtain ⟨o', es', ep', ho', r'⟩ := hm
    rw [ho] at ho'; cases ho'
    exact ⟨_, es', ep', hL, r'⟩) hok hg
theorem Inv.turned {t' : Nat} {it : Addr} (I : Inv X pins σ H s) (k : ∀ b o, b ≠ it → s.heap.get? b = some o → h'.get? b = some o) (hn : H it = none) (hL : it ≠ X.env.locals)
    (h1 : it ∈ X.ex ∨ X.s₀.heap.objs.size ≤ it) (h2 : ∀ x c, X.env.cells.lookup x = some c → c ≠ it) (h3 : ∀ p ∈ X.pn ++ pins, p.1 ≠ it) : Inv X pins σ H { s with heap := h', toks := t' } := by
  have nit : ∀ b u, H b = some u → b ≠ it := fun b u e z => by rw [z, hn] at e; cases e
  refine I.step (g' := s.gens) (d' := s.drawn) (ch := [it]) (fun b hb => ?_) (fun b o _ _ hc e _ => k b o (fun z => hc (by simp [z])) e) (fun b o _ _ hc e _ => ⟨o.slots, k b o (fun z => hc (by simp [z])) e⟩) (fun _ _ _ _ n => n)
    (fun b o hc e => ⟨o, k b o (fun z => hc (by simp [z])) e⟩) (fun _ _ e => e) (fun _ _ _ e => e) (fun b ps e => ⟨#[], by rw [e]; simp⟩) (fun m hm => ?_) (fun b u e => ?_) I.bare
  · have e : b = it := by simpa using hb
    subst e
    exact ⟨h1, hL, h2, h3⟩
  · obtain ⟨o, es, ep, ho, r⟩ := hm
    exact ⟨o, es, ep, k _ o (Ne.symm hL) ho, r⟩
  · refine (I.hok b u e).stay (fun c v hc q => k c v ?_ q) (fun _ q => q) fun _ _ q => q
    rcases hc with z | z
    · rw [z]; exact nit b u e
    · exact nit c _ z
theorem Inv.tok (I : Inv X pins σ H s) (t : Nat) : Inv X pins σ H { s with toks := t } := I.un (h' := s.heap) (t' := t) Un.refl I.hok
theorem Inv.kept {t' : Nat} (I : Inv X pins σ H s) (k : ∀ b u, s.heap.get? b = some u → h'.get? b = some u) : Inv X pins σ H { s with heap := h', toks := t' } := I.un (Un.kept k) (I.hok.kept k)
theorem Inv.laid {a : Addr} {o : HO} {t' : Nat} (I : Inv X pins σ H s) (k : ∀ b u, s.heap.get? b = some u → h'.get? b = some u) (hp : s.heap.objs.size ≤ a) (new : ObjOk X.prog X.w (upd H a o) h' a o) :
    Inv X pins σ (upd H a o) { s with heap := h', toks := t' } := I.un (Un.laid k hp (I.hok.fresh hp)) (I.hok.laid k hp new)
theorem Inv.write {x e : Addr} {o : HO} {t' : Nat} (I : Inv X pins σ H s) (mu : Mut (H x)) (he : e = x ∨ H e = some (.own x)) (k : ∀ b u, b ≠ e → s.heap.get? b = some u → h'.get? b = some u) (heo : ∃ u, h'.get? e = some u)
    (new : ObjOk X.prog X.w (upd H x o) h' x o) : Inv X pins σ (upd H x o) { s with heap := h', toks := t' } := I.un (Un.write mu he k heo) (I.hok.write mu he k heo new)
theorem Inv.weak {σ' : List (Option V)} (I : Inv X pins σ H s) (hl : σ'.length = σ.length) (w : ∀ (i : Nat) v, σ'[i]? = some (some v) → σ[i]? = some (some v)) : Inv X pins σ' H s :=
  ⟨I.ok, I.os, I.bare, I.base, let ⟨m, hn, hl'⟩ := I.loc; ⟨m, hn, fun i x v e1 e2 e3 => hl' i x v e1 (w i v e2) e3⟩, I.cell, I.free, I.freeC, I.pin, I.hok, hl.trans I.len⟩
theorem Inv.pins_of {pins' : List (Addr × Obj)} (I : Inv X pins σ H s) (h : ∀ p ∈ pins', s.heap.get? p.1 = some p.2 ∧ H p.1 = none ∧ p.1 ≠ X.env.locals ∧ p.1 ∉ X.fs ∧ ∀ v, p.2.data ≠ .cell v) : Inv X pins' σ H s :=
  ⟨I.ok, I.os, I.bare, I.base, I.loc, I.cell, I.free, I.freeC, fun p hp => (List.mem_append.mp hp).elim (fun z => I.pin p (List.mem_append_left _ z)) (h p), I.hok, I.len⟩

theorem nodup_ix {N : List Str} (hN : N.Nodup) {i j : Nat} {x : Str} (a : N[i]? = some x) (b : N[j]? = some x) : i = j := by
  obtain ⟨h1, e1⟩ := List.getElem?_eq_some_iff.mp a
  obtain ⟨h2, e2⟩ := List.getElem?_eq_some_iff.mp b
  exact (List.getElem_inj hN).mp (e1.trans e2.symm)

theorem store_ok2 {M : Model} {A : Around} {E : Value → Shared → Prop} {i : Nat} {x : Str} {v : V} {u : Value} {Q : Unit → Shared → Prop} (I : Inv X pins σ H s) (hN : X.N.Nodup) (hi : X.N[i]? = some x) (hx : Loc X.env.scope x) (r : RelV v u)
    (h : ∀ s', Inv X pins (σ.set i (some v)) H s' → (∃ a, Heap.SameBut a s.heap s'.heap ∧ (a = X.env.locals ∨ X.env.cells.lookup x = some a)) → Q () s') (hf : X.fn x = true ∨ X.env.scope.names.lookup x = some .local := by first | exact .inl rfl | exact .inr rfl | assumption) : wpAny M A (storeName X.env x u) Q E s := by
  obtain ⟨m, hn, hl⟩ := id I.loc
  have hcls : (X.env.scope.kind == .class || (X.env.scope.kind == .module && X.env.locals != X.env.globals)) = false := by rw [I.ok.kind]; rfl
  have hiσ : i < σ.length := by rw [I.len]; exact (List.getElem?_eq_some_iff.mp hi).1
  have cne := I.cne
  have tracked : ∀ {a : Addr} {h' : Heap}, (∃ o, s.heap.get? a = some o ∧ H a = none) → Heap.SameBut a s.heap h' → HOk X.prog X.w H h' := fun {a h'} ha hs b ob e => by
    obtain ⟨_, _, hfree⟩ := ha
    refine (I.hok b ob e).stay (fun c w' hc q => (hs.2 c ?_).trans q) (fun _ q => q) fun _ _ q => q
    rintro rfl
    rcases hc with rfl | hc
    · rw [hfree] at e; cases e
    · rw [hfree] at hc; cases hc
  rcases hx with hk | hk
  · refine wpAny_storeName_local hk hn (fun h' hn' hs => ?_) hcls
    obtain ⟨oL, _, _, hoL, _⟩ := id hn
    refine h _ ⟨I.ok, I.os, I.bare, ⟨fun b o e n hb hx => ?_, fun b o e n hb hx => ?_, I.base.free, fun b o e hx => ?_, I.base.tups, I.base.frzs, I.base.tbls⟩, ⟨_, hn', fun j y v' e1 e2 e3 => ?_⟩, fun y c e => ?_, I.free, I.freeC, fun p hp => ?_, tracked ⟨oL, hoL, I.free⟩ hs, by simpa using I.len⟩ ⟨_, hs, .inl rfl⟩
    · exact (hs.2 b (Nat.ne_of_lt (Nat.lt_of_lt_of_le (Heap.lt_size e) I.ok.above))).trans (I.base.keep b o e n hb hx)
    · obtain ⟨sl, e1⟩ := I.base.slot b o e n hb hx
      exact ⟨sl, (hs.2 b (Nat.ne_of_lt (Nat.lt_of_lt_of_le (Heap.lt_size e) I.ok.above))).trans e1⟩
    · obtain ⟨o', e1⟩ := I.base.there b o e hx
      exact ⟨o', (hs.2 b (Nat.ne_of_lt (Nat.lt_of_lt_of_le (Heap.lt_size e) I.ok.above))).trans e1⟩
    · by_cases hj : j = i
      · subst hj
        rw [hi] at e1; cases e1
        rw [List.getElem?_set_self hiσ] at e2
        cases e2
        exact ⟨u, r, .inl ⟨hk, by simp⟩⟩
      · rw [List.getElem?_set_ne (Ne.symm hj)] at e2
        obtain ⟨u', r', q⟩ := hl j y v' e1 e2 e3
        refine ⟨u', r', ?_⟩
        rcases q with ⟨k, e⟩ | ⟨k, c, e, z⟩
        · refine .inl ⟨k, ?_⟩
          have : y ≠ x := fun e => hj (nodup_ix hN e1 (e ▸ hi))
          simp [this, e]
        · exact .inr ⟨k, c, e, z.sameBut hs (cne y c e)⟩
    · obtain ⟨w', z⟩ := I.cell y c e
      exact ⟨w', z.sameBut hs (cne y c e)⟩
    · obtain ⟨e, n, ne, nf, d⟩ := I.pin p hp
      exact ⟨(hs.2 p.1 ne).trans e, n, ne, nf, d⟩
  · have hfn : X.fn x = true := by
      rcases hf with z | z
      · exact z
      · rw [z] at hk; cases hk
    obtain ⟨c, hc⟩ := I.ok.has x (.inl hk)
    obtain ⟨w', z⟩ := I.cell x c hc
    refine wpAny_storeName_cell I.ok.kind hk hc z (fun h' hc' hs => ?_)
    obtain ⟨oc, hoc, hocd⟩ := id z
    refine h { s with heap := h' } ⟨I.ok, I.os, I.bare, ⟨fun b o e n hb hx => ?_, fun b o e n hb hx => ?_, I.base.free, fun b o e hx => ?_, I.base.tups, I.base.frzs, I.base.tbls⟩, ⟨m, hn.sameBut hs (Ne.symm (cne x c hc)), fun j y v' e1 e2 e3 => ?_⟩, fun y c' e => ?_, I.free, I.freeC, fun p hp => ?_, tracked ⟨oc, hoc, I.freeC x c hc⟩ hs, by simpa using I.len⟩ ⟨c, hs, .inr hc⟩
    · exact (hs.2 b (Nat.ne_of_lt (Nat.lt_of_lt_of_le (Heap.lt_size e) (I.ok.cab x c hfn hc)))).trans (I.base.keep b o e n hb hx)
    · obtain ⟨sl, e1⟩ := I.base.slot b o e n hb hx
      exact ⟨sl, (hs.2 b (Nat.ne_of_lt (Nat.lt_of_lt_of_le (Heap.lt_size e) (I.ok.cab x c hfn hc)))).trans e1⟩
    · obtain ⟨o', e1⟩ := I.base.there b o e hx
      exact ⟨o', (hs.2 b (Nat.ne_of_lt (Nat.lt_of_lt_of_le (Heap.lt_size e) (I.ok.cab x c hfn hc)))).trans e1⟩
    · by_cases hj : j = i
      · subst hj
        rw [hi] at e1; cases e1
        rw [List.getElem?_set_self hiσ] at e2
        cases e2
        exact ⟨u, r, .inr ⟨.inl hk, c, hc, hc'⟩⟩
      · rw [List.getElem?_set_ne (Ne.symm hj)] at e2
        obtain ⟨u', r', q⟩ := hl j y v' e1 e2 e3
        refine ⟨u', r', ?_⟩
        rcases q with q | ⟨k, c', e, z'⟩
        · exact .inl q
        · refine .inr ⟨k, c', e, z'.sameBut hs ?_⟩
          rintro rfl
          exact hj (nodup_ix hN e1 (I.ok.inj _ _ _ e hc ▸ hi))
    · by_cases hcc : c' = c
      · subst hcc; exact ⟨_, hc'⟩
      · obtain ⟨w2, z2⟩ := I.cell y c' e
        exact ⟨w2, z2.sameBut hs hcc⟩
    · obtain ⟨e, n, ne, nf, d⟩ := I.pin p hp
      refine ⟨(hs.2 p.1 ?_).trans e, n, ne, nf, d⟩
      intro q
      rw [q, hoc] at e
      have q' : oc = p.2 := Option.some.inj e
      exact d w' (by rw [← q']; exact hocd)
theorem store_ok {M : Model} {A : Around} {E : Value → Shared → Prop} {i : Nat} {x : Str} {v : V} {u : Value} {Q : Unit → Shared → Prop} (I : Inv X pins σ H s) (hN : X.N.Nodup) (hi : X.N[i]? = some x) (hx : Loc X.env.scope x) (r : RelV v u)
    (h : ∀ s', Inv X pins (σ.set i (some v)) H s' → Q () s') (hf : X.fn x = true ∨ X.env.scope.names.lookup x = some .local := by first | exact .inl rfl | exact .inr rfl | assumption) : wpAny M A (storeName X.env x u) Q E s :=
  store_ok2 I hN hi hx r (fun s' I' _ => h s' I') hf
theorem Inv.call' {s' : Shared} {ch : List Addr} (I : Inv X pins σ H s) (ho : s'.os = s.os) (u : Un (frs X.stack) ch H H' s.heap s'.heap) (hok : HOk X.prog X.w H' s'.heap) (hg : AllBare s'.gens)
    (hch : ∀ b ∈ ch, (b ∈ X.ex ∨ X.s₀.heap.objs.size ≤ b) ∧ b ≠ X.env.locals ∧ (∀ x c, X.env.cells.lookup x = some c → c ≠ b) ∧ ∀ p ∈ X.pn ++ pins, p.1 ≠ b) : Inv X pins σ H' s' := by
  obtain ⟨h', g', d', t', o'⟩ := s'
  have e : o' = s.os := ho
  subst e
  exact I.call (g' := g') (t' := t') (d' := d') u hok hg hch
end

abbrev XK := Value → Option Addr → Hp → Prop
abbrev St := List (Option V)
abbrev VK := V → Hp → Prop
abbrev TE := St → Hp → VK → Prop
abbrev TT := St → Hp → (Bool → Hp → Prop) → Prop
abbrev TA := St → Hp → (List V → Hp → Prop) → Prop
structure Ends where
  nx : St → Hp → Prop
  rt : VK
  bk : St → Hp → Prop := fun _ _ => False
  ct : St → Hp → Prop := fun _ _ => False
abbrev TS := Ends → St → Hp → Prop

def EP (X : Cx) (pins : List (Addr × Obj)) (σ : St) (Q : VK) (u : Value) (s' : Shared) : Prop := ∃ v H', Inv X pins σ H' s' ∧ RelV v u ∧ Q v H'
def TP (X : Cx) (pins : List (Addr × Obj)) (σ : St) (Q : Bool → Hp → Prop) (b : Bool) (s' : Shared) : Prop := ∃ H', Inv X pins σ H' s' ∧ Q b H'
def AP (X : Cx) (pins : List (Addr × Obj)) (σ : St) (Q : List V → Hp → Prop) (us : List Value) (s' : Shared) : Prop := ∃ vs H', Inv X pins σ H' s' ∧ Vals vs us ∧ Q vs H'
def SP (X : Cx) (pins : List (Addr × Obj)) (D : Ends) (f : Flow) (s' : Shared) : Prop :=
  match f with
  | .next => ∃ σ' H', Inv X pins σ' H' s' ∧ D.nx σ' H'
  | .brk => ∃ σ' H', Inv X pins σ' H' s' ∧ D.bk σ' H'
  | .cont => ∃ σ' H', Inv X pins σ' H' s' ∧ D.ct σ' H'
  | .ret u => ∃ v σ' H', Inv X pins σ' H' s' ∧ RelV v u ∧ D.rt v H'

def PE (X : Cx) (e : Expr) (t : TE) : Prop :=
  ∀ (pins : List (Addr × Obj)) (s : Shared) (σ : St) (H : Hp) (Q : VK), Inv X pins σ H s → t σ H Q → wpAny (model X.prog X.w) X.A (eval e X.env) (EP X pins σ Q) X.xe s
def PT (X : Cx) (e : Expr) (t : TT) : Prop :=
  ∀ (pins : List (Addr × Obj)) (s : Shared) (σ : St) (H : Hp) (Q : Bool → Hp → Prop), Inv X pins σ H s → t σ H Q → wpAny (model X.prog X.w) X.A (isTrue e X.env (eval e X.env)) (TP X pins σ Q) X.xe s
def PW (X : Cx) (e : Expr) (t : TT) : Prop :=
  ∀ (whole : Sem Value) (pins : List (Addr × Obj)) (s : Shared) (σ : St) (H : Hp) (Q : Bool → Hp → Prop), Inv X pins σ H s → t σ H Q → wpAny (model X.prog X.w) X.A (isTrue e X.env whole) (TP X pins σ Q) X.xe s
theorem PW.pt {X : Cx} {e : Expr} {t : TT} (h : PW X e t) : PT X e t := h _
def PA (X : Cx) (es : List Expr) (t : TA) : Prop :=
  ∀ (pos : Pos) (pins : List (Addr × Obj)) (s : Shared) (σ : St) (H : Hp) (Q : List V → Hp → Prop), Inv X pins σ H s → t σ H Q → wpAny (model X.prog X.w) X.A (spliced (backTo pos (starEach es X.env))) (AP X pins σ Q) X.xe s
def PS (X : Cx) (st : Stmt) (t : TS) : Prop :=
  ∀ (pins : List (Addr × Obj)) (s : Shared) (σ : St) (H : Hp) (D : Ends), Inv X pins σ H s → t D σ H → wpAny (model X.prog X.w) X.A (exec st X.env) (SP X pins D) X.xe s
def PSs (X : Cx) (st : List Stmt) (t : TS) : Prop :=
  ∀ (pins : List (Addr × Obj)) (s : Shared) (σ : St) (H : Hp) (D : Ends), Inv X pins σ H s → t D σ H → wpAny (model X.prog X.w) X.A (execs st X.env) (SP X pins D) X.xe s
theorem thn {α : Type} {t : Sem α} {Q Q' : α → Shared → Prop} {M : Model} {A : Around} {E : Value → Shared → Prop} {s : Shared} (h : wpAny M A t Q E s) (hQ : ∀ a s, Q a s → Q' a s) : wpAny M A t Q' E s := wpAny_mono h hQ fun _ _ x => x
end L2

namespace L2
open PySem PySem.Spec PyProof.Rows
section
variable {X : Cx}

theorem bin {a b : Expr} {ta tb : TE} (ha : PE X a ta) (hb : PE X b tb) {pins : List (Addr × Obj)} {s : Shared} {σ : St} {H : Hp} {R : V → V → Hp → Prop} (I : Inv X pins σ H s) (h : ta σ H fun x H1 => tb σ H1 fun y H2 => R x y H2)
    {α : Type} {Q : α → Shared → Prop} {f : Value → Value → Sem α}
    (hf : ∀ v u s2 x y H2, Inv X pins σ H2 s2 → RelV x v → RelV y u → R x y H2 → wpAny (model X.prog X.w) X.A (f v u) Q X.xe s2) :
    wpAny (model X.prog X.w) X.A (eval a X.env) (fun v s₁ => wpAny (model X.prog X.w) X.A (eval b X.env) (fun u s₂ => wpAny (model X.prog X.w) X.A (f v u) Q X.xe s₂) X.xe s₁) X.xe s := by
  refine thn (ha pins s σ H _ I h) fun v s1 ⟨x, H1, I1, r1, q1⟩ => ?_
  refine thn (hb pins s1 σ H1 _ I1 q1) fun u s2 ⟨y, H2, I2, r2, q2⟩ => ?_
  exact hf v u s2 x y H2 I2 r1 r2 q2

def tVar (i : Nat) : TE := fun σ H Q => ∃ v, σ[i]? = some (some v) ∧ Q v H
def tC (v : V) : TE := fun _ H Q => Q v H
theorem pe_var {i : Nat} {x : Str} {pos : Pos} (hN : X.N[i]? = some x) (hv : Vis X.env.scope x) (hd : (x == ("__debug__" : Str)) = false := by decide) (hcd : (x == ("__classdict__" : Str)) = false := by decide) : PE X (.Name x pos) (tVar i) := by
  intro pins s σ H Q I h
  obtain ⟨v, e, h⟩ := h
  obtain ⟨m, hn, hl⟩ := I.loc
  obtain ⟨u, r, l⟩ := hl i x v hN e hv
  have fin : EP X pins σ Q u s := ⟨v, H, I, r, h⟩
  rcases l with ⟨hk, hm⟩ | ⟨hk, c, hc, hcell⟩
  · exact wpAny_Name (wpAny_loadName_local I.ok.kind hk hn hm fin) hd
  · rcases hk with hk | hk
    · exact wpAny_Name (wpAny_loadName_cell I.ok.kind hk hc hcell fin) hd
    · exact wpAny_Name (wpAny_loadName_free I.ok.kind hk hc hcell fin hcd) hd
theorem pe_int {i j pos} : PE X (.Constant (.int i) j pos) (tC (.int i)) := fun _ _ _ H _ I h => wpAny_Constant_int ⟨.int i, H, I.tok _, ⟨_, rfl⟩, h⟩
theorem pe_bl {b j pos} : PE X (.Constant (.bool b) j pos) (tC (.bl b)) := fun _ _ _ H _ I h => Constant_bool ⟨.bl b, H, I, rfl, h⟩
theorem pe_str {x j pos} : PE X (.Constant (.str x) j pos) (tC (.str x)) := fun _ _ _ H _ I h => Calls.Constant_str ⟨.str x, H, I.tok _, ⟨_, rfl⟩, h⟩

def Gl (X : Cx) (x : Str) : Prop := X.env.kindOf x = some .globalImplicit
theorem ld_glob {E : Value → Shared → Prop} {pins : List (Addr × Obj)} {s : Shared} {σ : St} {H : Hp} {x : Str} {u : Value} {pos : Pos} {Q : Value → Shared → Prop} (I : Inv X pins σ H s) (hg : Gl X x) (hm : X.mg x = some u) (h : Q u s)
    (hd : (x == ("__debug__" : Str)) = false := by decide) : wpAny (model X.prog X.w) X.A (eval (.Name x pos) X.env) Q E s :=
  Calls.Name_function_global I.ok.kind hg (Calls.loadGlobal_global (by rw [I.ok.glob]; exact I.mod.glob.keeps I.bk) hm h) hd
theorem ld_blt {E : Value → Shared → Prop} {pins : List (Addr × Obj)} {s : Shared} {σ : St} {H : Hp} {x : Str} {u : Value} {pos : Pos} {Q : Value → Shared → Prop} (I : Inv X pins σ H s) (hg : Gl X x) (hm : X.mg x = none) (hv : bootBuiltins x = some u) (h : Q u s)
    (hn : x ≠ "__name__" := by decide) (hd : (x == ("__debug__" : Str)) = false := by decide) : wpAny (model X.prog X.w) X.A (eval (.Name x pos) X.env) Q E s := by
  obtain ⟨mb, h1, h2⟩ := I.mod.blt
  exact Calls.Name_function_global I.ok.kind hg (Calls.loadGlobal_builtin (by rw [I.ok.glob]; exact I.mod.glob.keeps I.bk) hm (by rw [I.ok.blt]; exact h1.keeps I.bk) ((h2 x hn).trans hv) h) hd
theorem pe_bltn {x : Str} {v : V} {u : Value} {pos : Pos} (hg : Gl X x) (hm : X.mg x = none) (hv : bootBuiltins x = some u) (r : RelV v u) (hn : x ≠ "__name__" := by decide) (hd : (x == ("__debug__" : Str)) = false := by decide) : PE X (.Name x pos) (tC v) :=
  fun _ _ _ H _ I h => ld_blt I hg hm hv ⟨v, H, I, r, h⟩ hn hd

def t2I (ta tb : TE) (k : Int → Int → Hp → Prop) : St → Hp → Prop := fun σ H => ta σ H fun x H1 => tb σ H1 fun y H2 => ∃ i j, x = .int i ∧ y = .int j ∧ k i j H2
def tAdd (ta tb : TE) : TE := fun σ H Q => t2I ta tb (fun i j H2 => Q (.int (i + j)) H2) σ H
def tSub (ta tb : TE) : TE := fun σ H Q => t2I ta tb (fun i j H2 => Q (.int (i - j)) H2) σ H
def tMul (ta tb : TE) : TE := fun σ H Q => t2I ta tb (fun i j H2 => (-(2 ^ 64) < i ∧ i < 2 ^ 64) ∧ Q (.int (i * j)) H2) σ H
variable {a b : Expr} {ta tb : TE} {pos : Pos}
def PC (X : Cx) (op : CmpOp) (a b : Expr) (t : TE) : Prop :=
  ∀ (pins : List (Addr × Obj)) (s : Shared) (σ : St) (H : Hp) (Q : VK), Inv X pins σ H s → t σ H Q →
    wpAny (model X.prog X.w) X.A (eval a X.env) (fun v s₁ => wpAny (model X.prog X.w) X.A (eval b X.env) (fun u s₂ => wpAny (model X.prog X.w) X.A (compareOp op v u) (EP X pins σ Q) X.xe s₂) X.xe s₁) X.xe s
theorem nobehind (b : Expr) {op : CmpOp} (h : op ≠ .In) (h2 : op ≠ .NotIn) : behindInMarks op b = false := by
  have e1 : (op == CmpOp.In) = false := by cases op <;> first | rfl | exact absurd rfl h
  have e2 : (op == CmpOp.NotIn) = false := by cases op <;> first | rfl | exact absurd rfl h2
  cases b <;> simp [behindInMarks, e1, e2]
def tCmp (p : Int → Int → Bool) (ta tb : TE) : TE := fun σ H Q => t2I ta tb (fun i j H2 => Q (.bl (p i j)) H2) σ H
abbrev tLt : TE → TE → TE := tCmp fun i j => decide (i < j)
abbrev tLe : TE → TE → TE := tCmp fun i j => decide (i ≤ j)
abbrev tGt : TE → TE → TE := tCmp fun i j => decide (j < i)
abbrev tGe : TE → TE → TE := tCmp fun i j => decide (j ≤ i)
abbrev tEqI : TE → TE → TE := tCmp fun i j => decide (i = j)
abbrev tNeI : TE → TE → TE := tCmp fun i j => !decide (i = j)
def tIsN (ta : TE) : TE := fun σ H Q => ta σ H fun x H1 => Q (.bl (decide (x = .non))) H1
def tNotN (ta : TE) : TE := fun σ H Q => ta σ H fun x H1 => Q (.bl (!decide (x = .non))) H1
def tB (t : TE) : TT := fun σ H Q => t σ H fun x H1 => ∃ c, x = .bl c ∧ Q c H1
theorem pt_cmp {op : CmpOp} {t : TE} (h : PC X op a b t) (h1 : behindInMarks op b = false := by first | exact nobehind _ (by decide) (by decide) | rfl) : PT X (.Compare a [op] [b] pos) (tB t) := by
  intro pins s σ H Q I hw
  refine wpAny_isTrue_Compare1 (thn (h pins s σ H _ I hw) fun v s1 h1 => thn h1 fun u s2 h2 => thn h2 fun c s3 ⟨x, H1, I1, r1, q1⟩ => ?_) h1
  obtain ⟨d, rfl, q⟩ := q1
  cases r1
  exact wpAny_truthy_bool ⟨H1, I1, q⟩
theorem pt_val {e : Expr} {t : TE} (h : PE X e t) (he : ∀ whole, isTrue e X.env whole = (do let v ← whole; standAt e.pos; holding [v] (truthy v)) := by intro _; rfl) : PT X e (tB t) := by
  intro pins s σ H Q I hw
  refine isTrue_plain (thn (h pins s σ H _ I hw) fun v s1 ⟨x, H1, I1, r1, q1⟩ => ?_) (he _)
  obtain ⟨d, rfl, q⟩ := q1
  cases r1
  exact wpAny_truthy_bool ⟨H1, I1, q⟩

variable {tA tB' : TT} {rest : List Expr}
def tAnd (t u : TT) : TT := fun σ H Q => t σ H fun c H1 => if c = true then u σ H1 Q else Q false H1
def tOr (t u : TT) : TT := fun σ H Q => t σ H fun c H1 => if c = true then Q true H1 else u σ H1 Q
def tNot (t : TT) : TT := fun σ H Q => t σ H fun c H1 => Q (!c) H1
theorem pw_and1 (ha : PT X a tA) : PW X (.BoolOp .And [a] pos) tA := by
  intro wh pins s σ H Q I h
  refine isTrue_and (thn (ha pins s σ H Q I h) fun c s1 e => ?_)
  cases c with
  | true => exact isTrue_and_nil e
  | false => exact e
theorem pw_or1 (ha : PT X a tA) : PW X (.BoolOp .Or [a] pos) tA := by
  intro wh pins s σ H Q I h
  refine isTrue_or (thn (ha pins s σ H Q I h) fun c s1 e => ?_)
  cases c with
  | false => exact isTrue_or_nil e
  | true => exact e
theorem pw_and (ha : PT X a tA) (hb : PW X (.BoolOp .And (b :: rest) pos) tB') : PW X (.BoolOp .And (a :: b :: rest) pos) (tAnd tA tB') := by
  intro wh pins s σ H Q I h
  refine isTrue_and (thn (ha pins s σ H _ I h) fun c s1 ⟨H1, I1, q1⟩ => ?_)
  cases c with
  | true => exact hb wh pins s1 σ H1 Q I1 q1
  | false => exact ⟨H1, I1, q1⟩
theorem pw_or (ha : PT X a tA) (hb : PW X (.BoolOp .Or (b :: rest) pos) tB') : PW X (.BoolOp .Or (a :: b :: rest) pos) (tOr tA tB') := by
  intro wh pins s σ H Q I h
  refine isTrue_or (thn (ha pins s σ H _ I h) fun c s1 ⟨H1, I1, q1⟩ => ?_)
  cases c with
  | true => exact ⟨H1, I1, q1⟩
  | false => exact hb wh pins s1 σ H1 Q I1 q1
theorem pt_not (ha : PT X a tA) : PT X (.UnaryOp .Not a pos) (tNot tA) := by
  intro pins s σ H Q I h
  exact isTrue_not (ha pins s σ H (fun c H1 => Q (!c) H1) I h)
def tAndV (ta tb : TE) : TE := fun σ H Q => ta σ H fun x H1 => ∃ c, x = .bl c ∧ if c = true then tb σ H1 Q else Q (.bl false) H1
def tOrV (ta tb : TE) : TE := fun σ H Q => ta σ H fun x H1 => ∃ c, x = .bl c ∧ if c = true then Q (.bl true) H1 else tb σ H1 Q
def tNotV (ta : TE) : TE := fun σ H Q => ta σ H fun x H1 => ∃ c, x = .bl c ∧ Q (.bl (!c)) H1
theorem pe_one {op} {t : TE} (h : PE X a t) : PE X (.BoolOp op [a] pos) t := fun pins s σ H Q I hw => BoolOp_one (h pins s σ H Q I hw)
theorem pe_and (ha : PE X a ta) (hb : PE X (.BoolOp .And (b :: rest) pos) tb) : PE X (.BoolOp .And (a :: b :: rest) pos) (tAndV ta tb) := by
  intro pins s σ H Q I h
  refine BoolOp_and (thn (ha pins s σ H _ I h) fun v s1 ⟨x, H1, I1, r1, q1⟩ => ?_)
  obtain ⟨c, rfl, q1⟩ := q1
  cases r1
  refine wpAny_truthy_bool ?_
  cases c with
  | true => exact hb pins s1 σ H1 Q I1 q1
  | false => exact ⟨.bl false, H1, I1, rfl, q1⟩
theorem pe_not (ha : PE X a ta) : PE X (.UnaryOp .Not a pos) (tNotV ta) := by
  intro pins s σ H Q I h
  refine UnaryOp_ (thn (ha pins s σ H _ I h) fun v s1 ⟨x, H1, I1, r1, q1⟩ => ?_)
  obtain ⟨c, rfl, q1⟩ := q1
  cases r1
  exact not_of (wpAny_truthy_bool ⟨.bl (!c), H1, I1, rfl, q1⟩)
def tIf (t : TT) (ta tb : TE) : TE := fun σ H Q => t σ H fun c H1 => if c = true then ta σ H1 Q else tb σ H1 Q
end
end L2

namespace L2
open PySem PySem.Spec PyProof.Rows

def SqL (K : PySem.W.Frag) (H : Hp) (a : Addr) (xs : List V) : Prop :=
  Rd H a (.lst xs) ∨
    ∃ (o : Obj) (its : Array Value) (n : Nat), K.lookup a = some o ∧ o.cls = .type "list" ∧ o.dict = none ∧ o.data = .seq its n ∧ its.size ≤ sizeLine ∧ Vals xs its.toList
def SqT (K : PySem.W.Frag) (H : Hp) (a : Addr) (xs : List V) : Prop :=
  Rd H a (.tup xs) ∨
    ∃ (o : Obj) (its : Array Value) (n : Nat), K.lookup a = some o ∧ o.cls = .type "tuple" ∧ o.data = .seq its n ∧ its.size ≤ sizeLine ∧ Vals xs its.toList
def absV : Value → Option V
  | .none => some .non
  | .bool b => some (.bl b)
  | .int i _ => some (.int i)
  | .str x _ => some (.str x)
  | .bytes b _ => some (.byt b)
  | .float b _ => some (.flt b)
  | .ref a => some (.ref a)
  | .type n => some (.ty n)
  | _ => none
theorem RelV.abs {x : V} {u : Value} (r : RelV x u) : absV u = some x := by
  cases x with
  | non => cases r; rfl
  | bl _ => cases r; rfl
  | int _ => obtain ⟨t, rfl⟩ := r; rfl
  | str _ => obtain ⟨t, rfl⟩ := r; rfl
  | byt _ => obtain ⟨t, rfl⟩ := r; rfl
  | flt _ => obtain ⟨t, rfl⟩ := r; rfl
  | ref _ => cases r; rfl
  | ty _ => cases r; rfl
theorem RelV.inj {x y : V} {u : Value} (r : RelV x u) (q : RelV y u) : x = y := Option.some.inj (r.abs.symm.trans q.abs)
theorem Vals.inj : ∀ {xs ys : List V} {us : List Value}, Vals xs us → Vals ys us → xs = ys
  | _, _, _, .nil, .nil => rfl
  | _, _, _, .cons r t, .cons r' t' => by rw [r.inj r', Vals.inj t t']
section
variable {X : Cx} {pins : List (Addr × Obj)} {σ : St} {H : Hp} {s : Shared} {a : Addr} {xs ys : List V}
theorem SqL.of {K : PySem.W.Frag} (h : H a = some (.lst xs)) : SqL K H a xs := .inl (.inl h)
theorem SqT.of {K : PySem.W.Frag} (h : H a = some (.tup xs)) : SqT K H a xs := .inl (.inl h)
theorem Inv.list (I : Inv X pins σ H s) (h : SqL X.K H a xs) : ∃ its : List Value, Vals xs its ∧ PlainL s.heap a its.toArray ∧ xs.length ≤ sizeLine := by
  rcases h with h | ⟨o, its, n, hk, hc, hd, hs, hz, r⟩
  · obtain ⟨z, its, n, r, e⟩ := h.ok I.hok
    exact ⟨its, r, ⟨_, n, e, rfl, rfl, rfl⟩, z⟩
  · refine ⟨its.toList, r, ⟨o, n, I.kIn a o hk, hc, hd, by simpa using hs⟩, ?_⟩
    have e := r.length
    simp only [Array.length_toList] at e
    omega
theorem Inv.tuple (I : Inv X pins σ H s) (h : SqT X.K H a xs) : ∃ its : List Value, Vals xs its ∧ IsTup s.heap a its.toArray ∧ xs.length ≤ sizeLine := by
  rcases h with h | ⟨o, its, n, hk, hc, hs, hz, r⟩
  · obtain ⟨z, its, r, p⟩ := h.ok I.hok
    exact ⟨its, r, p, z⟩
  · refine ⟨its.toList, r, ⟨o, I.kIn a o hk, hc, n, by simpa using hs⟩, ?_⟩
    have e := r.length
    simp only [Array.length_toList] at e
    omega
theorem Inv.list_inj (I : Inv X pins σ H s) (h : SqL X.K H a xs) (h' : SqL X.K H a ys) : xs = ys := by
  obtain ⟨its, r, ⟨o, n, e, _, _, d⟩, _⟩ := I.list h
  obtain ⟨its', r', ⟨o', n', e', _, _, d'⟩, _⟩ := I.list h'
  rw [e] at e'; cases e'
  rw [d] at d'
  injection d' with d1 _
  have : its = its' := by simpa using congrArg Array.toList d1
  subst this
  exact r.inj r'
theorem Inv.tuple_inj (I : Inv X pins σ H s) (h : SqT X.K H a xs) (h' : SqT X.K H a ys) : xs = ys := by
  obtain ⟨its, r, ⟨o, e, _, n, d⟩, _⟩ := I.tuple h
  obtain ⟨its', r', ⟨o', e', _, n', d'⟩, _⟩ := I.tuple h'
  rw [e] at e'; cases e'
  rw [d] at d'
  injection d' with d1 _
  have : its = its' := by simpa using congrArg Array.toList d1
  subst this
  exact r.inj r'
end

abbrev Cx.wish (X : Cx) (E : Value → Shared → Prop) : Cx := { X with xe := E }
abbrev Cx.nox (X : Cx) : Cx := X.wish fun _ _ => False
theorem Cx.Ok.wish {X : Cx} (ok : X.Ok) (E : Value → Shared → Prop) : (X.wish E).Ok :=
  ⟨ok.mod, ok.kind, ok.glob, ok.blt, ok.above, ok.inj, ok.has, ok.cab, ok.hd, ok.frames, ok.stk, ok.exf, ok.bs, ok.bsz, ok.noex, ok.exfs, ok.funs, ok.frf⟩
theorem Cx.Ok.unwish {X : Cx} {E : Value → Shared → Prop} (ok : (X.wish E).Ok) : X.Ok :=
  ⟨ok.mod, ok.kind, ok.glob, ok.blt, ok.above, ok.inj, ok.has, ok.cab, ok.hd, ok.frames, ok.stk, ok.exf, ok.bs, ok.bsz, ok.noex, ok.exfs, ok.funs, ok.frf⟩
section
variable {X : Cx} {pins : List (Addr × Obj)} {σ : St} {H : Hp} {s : Shared} {E : Value → Shared → Prop}
theorem Inv.wish (I : Inv X pins σ H s) (E : Value → Shared → Prop) : Inv (X.wish E) pins σ H s := ⟨I.ok.wish E, I.os, I.bare, I.base, I.loc, I.cell, I.free, I.freeC, I.pin, I.hok, I.len⟩
theorem Inv.unwish (I : Inv (X.wish E) pins σ H s) : Inv X pins σ H s := ⟨I.ok.unwish, I.os, I.bare, I.base, I.loc, I.cell, I.free, I.freeC, I.pin, I.hok, I.len⟩
theorem SP.unwish {D : Ends} {f : Flow} {s' : Shared} (h : SP (X.wish E) pins D f s') : SP X pins D f s' := by
  cases f with
  | next => obtain ⟨σ', H', I, q⟩ := h; exact ⟨σ', H', I.unwish, q⟩
  | brk => obtain ⟨σ', H', I, q⟩ := h; exact ⟨σ', H', I.unwish, q⟩
  | cont => obtain ⟨σ', H', I, q⟩ := h; exact ⟨σ', H', I.unwish, q⟩
  | ret u => obtain ⟨v, σ', H', I, r, q⟩ := h; exact ⟨v, σ', H', I.unwish, r, q⟩
theorem PSs.nox {st : List Stmt} {t : TS} (h : PSs X.nox st t) : PSs X st t := fun pins s σ H D I hw =>
  wpAny_mono (h pins s σ H D (I.wish _) hw) (fun _ _ q => q.unwish) fun _ _ z => False.elim z
end

section
variable {X : Cx} {st : Stmt} {rest : List Stmt} {t u : TS} {e : Expr} {te : TE} {pos : Pos}
def tNext : TS := fun D σ H => D.nx σ H
def tSeq (t u : TS) : TS := fun D σ H => t { D with nx := u D } σ H
theorem pss_nil : PSs X [] tNext := fun _ _ σ H _ I h => wpAny_execs_nil ⟨σ, H, I, h⟩
theorem pss_cons (h1 : PS X st t) (h2 : PSs X rest u) : PSs X (st :: rest) (tSeq t u) := by
  intro pins s σ H D I h
  refine wpAny_execs_cons (thn (h1 pins s σ H { D with nx := u D } I h) fun f s1 q => ?_)
  cases f with
  | next =>
    obtain ⟨σ', H', I', q⟩ := q
    exact h2 pins s1 σ' H' D I' q
  | ret v => exact q
  | brk => exact q
  | cont => exact q
theorem pss_one (h1 : PS X st t) : PSs X [st] t := by
  intro pins s σ H D I h
  refine wpAny_execs_cons (thn (h1 pins s σ H D I h) fun f s1 q => ?_)
  cases f with
  | next => exact wpAny_execs_nil q
  | ret v => exact q
  | brk => exact q
  | cont => exact q
def tBreak : TS := fun D σ H => D.bk σ H
def tCont : TS := fun D σ H => D.ct σ H
theorem Inv.quiet {pins : List (Addr × Obj)} {σ : St} {H : Hp} {s : Shared} (I : Inv X pins σ H s) : interactive X.env = false := by simp [interactive, I.ok.kind]
def tDrop (te : TE) : TS := fun D σ H => te σ H fun _ H1 => D.nx σ H1
theorem ps_expr (he : PE X e te) (hs : swapsWith e none pos.line X.env = pure false := by rfl) : PS X (.Expr e pos) (tDrop te) := by
  intro pins s σ H D I h
  exact wpAny_Expr_any (thn (he pins s σ H _ I h) fun v s1 ⟨x, H1, I1, r1, q1⟩ => ⟨σ, H1, I1, q1⟩) I.quiet hs
def tRet (te : TE) : TS := fun D σ H => te σ H D.rt
theorem ps_ret (he : PE X e te) : PS X (.Return (some e) pos) (tRet te) := by
  intro pins s σ H D I h
  exact wpAny_Return_some (thn (he pins s σ H _ I h) fun v s1 ⟨x, H1, I1, r1, q1⟩ => ⟨x, σ, H1, I1, r1, q1⟩)
def tRetN : TS := fun D _ H => D.rt .non H
def tIfS (c : TT) (t u : TS) : TS := fun D σ H => c σ H fun b H1 => if b = true then t D σ H1 else u D σ H1
theorem ps_if {c : Expr} {a b : List Stmt} {tc : TT} (hc : PT X c tc) (ha : PSs X a t) (hb : PSs X b u) : PS X (.If c a b pos) (tIfS tc t u) := by
  intro pins s σ H D I h
  refine wpAny_If (thn (hc pins s σ H _ I h) fun d s1 ⟨H1, I1, q1⟩ => ?_)
  cases d with
  | true => exact ha pins s1 σ H1 D I1 q1
  | false => exact hb pins s1 σ H1 D I1 q1
def tNever : TS := fun _ _ _ => False
end

abbrev TG := V → St → Hp → (St → Hp → Prop) → Prop
abbrev TGs := List V → St → Hp → (St → Hp → Prop) → Prop
def PG (X : Cx) (target : Expr) (t : TG) : Prop :=
  ∀ (pins : List (Addr × Obj)) (s : Shared) (σ : St) (H : Hp) (v : V) (u : Value) (Q : St → Hp → Prop), Inv X pins σ H s → RelV v u → t v σ H Q →
    wpAny (model X.prog X.w) X.A (assign target X.env u) (fun _ s' => ∃ σ' H', Inv X pins σ' H' s' ∧ Q σ' H') X.xe s
def PGs (X : Cx) (ts : List Expr) (t : TGs) : Prop :=
  ∀ (pins : List (Addr × Obj)) (s : Shared) (σ : St) (H : Hp) (vs : List V) (us : List Value) (Q : St → Hp → Prop), Inv X pins σ H s → Vals vs us → t vs σ H Q →
    wpAny (model X.prog X.w) X.A (assignInOrder ((assignEach ts X.env).map (·.2)) us) (fun _ s' => ∃ σ' H', Inv X pins σ' H' s' ∧ Q σ' H') X.xe s
abbrev TSet := V → V → V → Hp → (Hp → Prop) → Prop
def PSet (X : Cx) (t : TSet) : Prop :=
  ∀ (pins : List (Addr × Obj)) (s : Shared) (σ : St) (H : Hp) (o i v : V) (ov iv u : Value) (Q : Hp → Prop), Inv X pins σ H s → RelV o ov → RelV i iv → RelV v u → t o i v H Q →
    wpAny (model X.prog X.w) X.A (setItem ov iv u) (fun _ s' => ∃ H', Inv X pins σ H' s' ∧ Q H') X.xe s
abbrev TIp := V → V → Hp → VK → Prop
def PIp (X : Cx) (op : Operator) (t : TIp) : Prop :=
  ∀ (pins : List (Addr × Obj)) (s : Shared) (σ : St) (H : Hp) (x y : V) (v u : Value) (Q : VK), Inv X pins σ H s → RelV x v → RelV y u → t x y H Q →
    wpAny (model X.prog X.w) X.A (inplaceOp op v u) (EP X pins σ Q) X.xe s
section
variable {X : Cx} {pos : Pos}
def gName (i : Nat) : TG := fun v σ H Q => Q (σ.set i (some v)) H
theorem pg_name {i : Nat} {x : Str} (hN : X.N.Nodup) (hi : X.N[i]? = some x) (hx : Loc X.env.scope x) (hf : X.fn x = true ∨ X.env.scope.names.lookup x = some .local := by first | exact .inl rfl | exact .inr rfl | assumption) : PG X (.Name x pos) (gName i) := by
  intro pins s σ H v u Q I r h
  exact wpAny_assign_Name (store_ok I hN hi hx r (fun s' I' => ⟨_, H, I', h⟩) hf)
def gNil : TGs := fun vs σ H Q => vs = [] ∧ Q σ H
def gCons (t : TG) (u : TGs) : TGs := fun vs σ H Q => ∃ v r, vs = v :: r ∧ t v σ H fun σ' H' => u r σ' H' Q
theorem pgs_nil : PGs X [] gNil := by
  intro pins s σ H vs us Q I r h
  obtain ⟨e, h⟩ := h
  subst e
  cases r
  exact assignInOrder_nil ⟨σ, H, I, h⟩
theorem pgs_cons {e : Expr} {es : List Expr} {t : TG} {u : TGs} (h1 : PG X e t) (h2 : PGs X es u)
    (hs : (assignEach (e :: es) X.env).map (·.2) = assign e X.env :: (assignEach es X.env).map (·.2) := by rfl) : PGs X (e :: es) (gCons t u) := by
  intro pins s σ H vs us Q I r h
  obtain ⟨v, vr, e1, h⟩ := h
  subst e1
  cases r with
  | cons r rr =>
    rw [hs]
    refine assignInOrder_cons (thn (h1 pins s σ H _ _ _ I r h) fun _ s1 ⟨σ1, H1, I1, q1⟩ => ?_)
    exact h2 pins s1 σ1 H1 _ _ Q I1 rr q1
def gTup (K : PySem.W.Frag) (n : Nat) (t : TGs) : TG := fun v σ H Q => ∃ a xs, v = .ref a ∧ SqT K H a xs ∧ xs.length = n ∧ t xs σ H Q
theorem pg_tup {es : List Expr} {k : Nat} {t : TGs} {n : Nat} (hc : X.calm = true) (h : PGs X es t)
    (hn : (assignEach es X.env).length = n := by rfl) (hst : (assignEach es X.env).findIdx? (·.1) = none := by rfl) : PG X (.Tuple es k pos) (gTup X.K n t) := by
  intro pins s σ H v u Q I r hw
  obtain ⟨a, xs, e1, hq, hl, hw⟩ := hw
  subst e1
  cases r
  obtain ⟨its, rv, ht, hz⟩ := I.tuple hq
  refine assign_Tuple_tuple (I.ok.hd hc) ht (by simp [hn, ← hl, rv.length]) hst fun h' hx => ?_
  have I1 : Inv X pins σ H { s with heap := h' } := I.kept (t' := s.toks) fun b o e => hx b o (Nat.ne_of_lt (Heap.lt_size e)) e
  exact h pins _ σ H xs _ Q I1 (by simpa using rv) hw
def gSub (to ti : TE) (t : TSet) : TG := fun v σ H Q => to σ H fun o H1 => ti σ H1 fun i H2 => t o i v H2 fun H3 => Q σ H3
theorem pg_sub {o i : Expr} {to ti : TE} {t : TSet} (ho : PE X o to) (hi : PE X i ti) (hs : PSet X t)
    (ha : ∀ v, assign (.Subscript o i pos) X.env v = (do
      let ov ← holding [v] (eval o X.env)
      let iv ← holding [v, ov] (eval i X.env)
      standAt pos
      holding [v, ov, iv] (setItem ov iv v)
      release [v, ov, iv] []) := by intro _; rfl) : PG X (.Subscript o i pos) (gSub to ti t) := by
  intro pins s σ H v u Q I r h
  rw [ha]
  refine wpAny_bind (wpAny_holding (thn (ho pins s σ H _ I h) fun ov s1 ⟨x, H1, I1, r1, q1⟩ => ?_))
  refine wpAny_bind (wpAny_holding (thn (hi pins s1 σ H1 _ I1 q1) fun iv s2 ⟨y, H2, I2, r2, q2⟩ => ?_))
  refine wpAny_bind (wpAny_standAt (wpAny_bind (wpAny_holding (thn (hs pins s2 σ H2 x y v ov iv u _ I2 r1 r2 r q2) fun _ s3 ⟨H3, I3, q3⟩ => ?_))))
  exact wpAny_release ⟨σ, H3, I3, q3⟩
def tAsg (te : TE) (g : TG) : TS := fun D σ H => te σ H fun x H1 => g x σ H1 D.nx
theorem ps_asg {tg e : Expr} {te : TE} {g : TG} (he : PE X e te) (hg : PG X tg g) (hs : swapsWithSole [tg] e pos.line X.env = pure false := by rfl) (hw : swappedStores [tg] e X.env = pure none := by rfl)
    (h1 : (assignEach [tg] X.env).map (·.2) = [assign tg X.env] := by rfl) : PS X (.Assign [tg] e pos) (tAsg te g) := by
  intro pins s σ H D I h
  refine wpAny_Assign_stores (thn (he pins s σ H _ I h) fun v s1 ⟨x, H1, I1, r1, q1⟩ => ?_) hs hw
  rw [h1]
  exact thn (hg pins s1 σ H1 x v _ I1 r1 q1) fun _ s2 q => q
theorem ps_set {i : Nat} {x : Str} {e : Expr} {te : TE} {pos' : Pos} (hN : X.N.Nodup) (hi : X.N[i]? = some x) (hx : Loc X.env.scope x) (he : PE X e te) (hs : swapsWith e (some (.Name x pos')) pos.line X.env = pure false := by rfl) (hf : X.fn x = true ∨ X.env.scope.names.lookup x = some .local := by first | exact .inl rfl | exact .inr rfl | assumption) :
    PS X (.Assign [.Name x pos'] e pos) (tAsg te (gName i)) := by
  intro pins s σ H D I h
  refine wpAny_Assign_Name (thn (he pins s σ H _ I h) fun v s1 ⟨y, H1, I1, r1, q1⟩ => ?_) hs
  exact store_ok I1 hN hi hx r1 (fun s2 I2 => ⟨_, H1, I2, q1⟩) hf
def tPar (i j : Nat) (ta : TA) : TS := fun D σ H => ta σ H fun vs H1 => ∃ v w, vs = [v, w] ∧ D.nx ((σ.set i (some v)).set j (some w)) H1
def tAug (i : Nat) (te : TE) (ti : TIp) : TS := fun D σ H => ∃ x, σ[i]? = some (some x) ∧ te σ H fun y H1 => ti x y H1 fun z H2 => D.nx (σ.set i (some z)) H2
def tAugS (to ti te : TE) (tget : V → V → Hp → VK → Prop) (tip : TIp) (tset : TSet) : TS := fun D σ H => to σ H fun o H1 => ti σ H1 fun i H2 => tget o i H2 fun x H3 => te σ H3 fun y H4 => tip x y H4 fun z H5 => tset o i z H5 fun H6 => D.nx σ H6
def PGet (X : Cx) (t : V → V → Hp → VK → Prop) : Prop :=
  ∀ (pins : List (Addr × Obj)) (s : Shared) (σ : St) (H : Hp) (o i : V) (ov iv : Value) (Q : VK), Inv X pins σ H s → RelV o ov → RelV i iv → t o i H Q →
    wpAny (model X.prog X.w) X.A (getItem ov iv) (EP X pins σ Q) X.xe s
def ipI (f : Int → Int → Int) : TIp := fun x y H Q => ∃ i j, x = .int i ∧ y = .int j ∧ Q (.int (f i j)) H
end

section
variable {X : Cx} {pos : Pos}
def tWhile (c : TT) (tb : TS) : TS := fun D σ H => ∃ W : Nat → St → Hp → Prop, (∃ m, W m σ H) ∧ ∀ m σ H, W m σ H →
  c σ H fun b H1 => if b = true then ∃ N : St → Hp → Prop, (∀ σ' H', N σ' H' → ∃ m', m' < m ∧ W m' σ' H') ∧ tb { D with nx := N, ct := N, bk := D.nx } σ H1 else D.nx σ H1
theorem ps_while {c : Expr} {body : List Stmt} {tc : TT} {tb : TS} (hp : PassesOwn (model X.prog X.w) X.A X.env X.xe) (hc : PT X c tc) (hb : PSs X body tb) : PS X (.While c body [] pos) (tWhile tc tb) := by
  intro pins s σ H D I h
  obtain ⟨W, ⟨m0, w0⟩, turn⟩ := h
  refine wpAny_While (codeAny_whileLoop (fun n s' => ∃ σ' H', Inv X pins σ' H' s' ∧ W n σ' H') ?_ m0 ⟨σ, H, I, w0⟩)
  rintro n s1 ⟨σ1, H1, I1, w1⟩
  refine wpAny_passesOwn hp (thn (hc pins s1 σ1 H1 _ I1 (turn n σ1 H1 w1)) fun b s2 ⟨H2, I2, q2⟩ => ?_)
  cases b with
  | true =>
    obtain ⟨N, hN, q2⟩ := q2
    rw [if_pos rfl]
    refine wpAny_passesOwn hp (thn (hb pins s2 σ1 H2 _ I2 q2) fun f s3 q3 => ?_)
    cases f with
    | next =>
      obtain ⟨σ3, H3, I3, n3⟩ := q3
      obtain ⟨m', hm, w3⟩ := hN σ3 H3 n3
      exact ⟨m', hm, σ3, H3, I3, w3⟩
    | cont =>
      obtain ⟨σ3, H3, I3, n3⟩ := q3
      obtain ⟨m', hm, w3⟩ := hN σ3 H3 n3
      exact ⟨m', hm, σ3, H3, I3, w3⟩
    | brk => exact q3
    | ret v => exact q3
  | false =>
    rw [if_neg Bool.false_ne_true]
    exact wpAny_execs_nil ⟨σ1, H2, I2, q2⟩
end

structure It where
  go : Nat → Hp → Prop
  yld : Nat → Hp → V → Hp → Prop
  stop : Nat → Hp → Prop
def FpOk (X : Cx) (pins : List (Addr × Obj)) (H : Hp) (b : Addr) : Prop :=
  H b = none ∧ b ≠ X.env.locals ∧ b ∉ X.fs ∧ (b ∈ X.ex ∨ X.s₀.heap.objs.size ≤ b) ∧ (∀ x c, X.env.cells.lookup x = some c → c ≠ b) ∧ ∀ p ∈ X.pn ++ pins, p.1 ≠ b
theorem Inv.fpOk {X : Cx} {pins : List (Addr × Obj)} {σ : St} {H H' : Hp} {s : Shared} {b : Addr} (I : Inv X pins σ H s) (hb : s.heap.objs.size ≤ b) (hn : H' b = none) : FpOk X pins H' b := by
  refine ⟨hn, Nat.ne_of_gt (Nat.lt_of_lt_of_le I.lt hb), I.nofs hb, .inr (Nat.le_trans I.sz hb), fun x c e z => ?_, fun p hp z => ?_⟩
  · obtain ⟨v, q⟩ := I.cell x c e
    exact absurd (Nat.lt_of_lt_of_le q.lt (by rw [z]; exact hb)) (Nat.lt_irrefl _)
  · exact absurd (Nat.lt_of_lt_of_le (Heap.lt_size (I.pin p hp).1) (by rw [z]; exact hb)) (Nat.lt_irrefl _)
structure Turn (P : Program) (w : World) (K : PySem.W.Frag) (tg : Expr) (J : It) (fp : List Addr) (it : Addr) (tn : Nat → Heap → Prop) : Prop where
  mem : it ∈ fp
  obj : ∀ i h, tn i h → ∀ b ∈ fp, ∃ o, h.get? b = some o ∧ ∀ v, o.data ≠ .cell v
  keep : ∀ i h h', tn i h → (∀ b ∈ fp, ∀ o, h.get? b = some o → h'.get? b = some o) → tn i h'
  item : ∀ (X : Cx), X.prog = P → X.w = w → X.K = K → X.calm = true → ∀ (i : Nat) (pins : List (Addr × Obj)) (s : Shared) (σ : St) (H : Hp) (E : Value → Shared → Prop), Inv X pins σ H s → (∀ b ∈ fp, FpOk X pins H b) → tn i s.heap → J.go i H →
    wpAny (model P w) X.A (pyNext (.ref it)) (fun r s1 => ∃ u, r = some u ∧
      wpAny (model P w) X.A (letOwnedTupleGo tg (.ref it) u) (fun _ s2 => ∃ x H', Inv X pins σ H' s2 ∧ RelV x u ∧ J.yld i H x H' ∧ tn (i + 1) s2.heap ∧ ∀ b ∈ fp, H' b = none) E s1) E s
  done : ∀ (X : Cx), X.prog = P → X.w = w → X.K = K → X.calm = true → ∀ (i : Nat) (pins : List (Addr × Obj)) (s : Shared) (σ : St) (H : Hp) (E : Value → Shared → Prop), Inv X pins σ H s → (∀ b ∈ fp, FpOk X pins H b) → tn i s.heap → J.stop i H →
    wpAny (model P w) X.A (pyNext (.ref it)) (fun r s1 => r = none ∧ Inv X pins σ H s1) E s
  self : ∀ (A : Around) (i : Nat) (s : Shared) (Q : Value → Shared → Prop) (E : Value → Shared → Prop), tn i s.heap → Q (.ref it) s → wpAny (model P w) A (pyIter (.ref it)) Q E s
abbrev TI := St → Hp → (It → Hp → Prop) → Prop
def PIE (X : Cx) (pins : List (Addr × Obj)) (σ : St) (tg : Expr) (R : It → Hp → Prop) (itv : Value) (s2 : Shared) : Prop :=
  ∃ (it : Addr) (fp : List Addr) (tn : Nat → Heap → Prop) (J : It) (H' : Hp), itv = .ref it ∧ Inv X pins σ H' s2 ∧ Turn X.prog X.w X.K tg J fp it tn ∧ tn 0 s2.heap ∧ (∀ b ∈ fp, FpOk X pins H' b) ∧ R J H'
def PI (X : Cx) (tg iter : Expr) (wi : TI) : Prop :=
  ∀ (pins : List (Addr × Obj)) (s : Shared) (σ : St) (H : Hp) (R : It → Hp → Prop), Inv X pins σ H s → wi σ H R →
    wpAny (model X.prog X.w) X.A (eval iter X.env) (fun v s1 => wpAny (model X.prog X.w) X.A (pyIter v) (PIE X pins σ tg R) X.xe s1) X.xe s

theorem go_of {M : Model} {A : Around} {E : Value → Shared → Prop} {s : Shared} {tg : Expr} {it : Addr} {u : Value} {o : Obj} {n : String} {vs : Array Value} {Q : Unit → Shared → Prop} (ho : s.heap.get? it = some o) (hc : o.cls = .type n) (hd : o.data = .fields vs)
    (hn : ["enumerate", "zip", "dict_itemiterator", "dict_reverseitemiterator", "odict_iterator", "itertools.zip_longest", "itertools.pairwise"].contains n = false) (hQ : Q () s) : wpAny M A (letOwnedTupleGo tg (.ref it) u) Q E s := by
  unfold letOwnedTupleGo
  cases tg <;> first
    | exact wpAny_pure hQ
    | (cases u <;> first
        | exact wpAny_pure hQ
        | (refine wpAny_bind (wpAny_load ho ?_)
           rw [hc, hd]
           show wpAny M A (if (["enumerate", "zip", "dict_itemiterator", "dict_reverseitemiterator", "odict_iterator", "itertools.zip_longest", "itertools.pairwise"].contains n && vs[0]? == some (rawInt _)) = true then _ else _) Q E s
           rw [if_neg (by intro h; rw [hn, Bool.false_and] at h; cases h)]
           exact wpAny_pure hQ))

def Itl (K : PySem.W.Frag) (a : Addr) : It :=
  ⟨fun i H => ∃ xs x, SqL K H a xs ∧ xs[i]? = some x, fun i H x H' => H' = H ∧ ∀ xs, SqL K H a xs → xs[i]? = some x, fun i H => ∃ xs, SqL K H a xs ∧ xs.length ≤ i⟩
def Itt (K : PySem.W.Frag) (a : Addr) : It :=
  ⟨fun i H => ∃ xs x, SqT K H a xs ∧ xs[i]? = some x, fun i H x H' => H' = H ∧ ∀ xs, SqT K H a xs → xs[i]? = some x, fun i H => ∃ xs, SqT K H a xs ∧ xs.length ≤ i⟩
def Itr (lo : Int) (n : Nat) : It := ⟨fun i _ => i < n, fun i H x H' => H' = H ∧ x = .int (lo + i), fun i _ => n ≤ i⟩
theorem turn_list {P : Program} {w : World} {K : PySem.W.Frag} {tg : Expr} (a it : Addr) : Turn P w K tg (Itl K a) [it] it (fun i h => h.IsListIter it a i) where
  mem := by simp
  obj := fun i h st b hb => by
    have e : b = it := by simpa using hb
    subst e
    obtain ⟨o, e, c, d⟩ := st
    exact ⟨o, e, fun v z => by rw [d] at z; cases z⟩
  keep := fun i h h' st k => st.at fun o e => k it (by simp) o e
  item := by
    intro X hP hw hK hc i pins s σ H E I hf st hg
    subst hP hw hK
    obtain ⟨xs, x, hq, hx⟩ := hg
    obtain ⟨its, rv, p, hz⟩ := I.list hq
    obtain ⟨u, hu, ru⟩ := rv.get hx
    obtain ⟨f0, f1, f2, f3, f4, f5⟩ := hf it (by simp)
    refine wpAny_pyNext_list_item st p.isList (x := u) (by simpa using hu) fun h' st' sb => ?_
    have I1 : Inv X pins σ H { s with heap := h' } := I.turned (t' := s.toks) (fun b o hb e => (sb.2 b hb).trans e) f0 f1 f3 f4 f5
    obtain ⟨o, e, c, d⟩ := id st'
    exact ⟨u, rfl, go_of (s := { s with heap := h' }) e c d (by decide) ⟨x, H, I1, ru, ⟨rfl, fun ys hy => by rw [I.list_inj hy hq]; exact hx⟩, st', fun b hb => (hf b hb).1⟩⟩
  done := by
    intro X hP hw hK hc i pins s σ H E I hf st hg
    subst hP hw hK
    obtain ⟨xs, hq, hx⟩ := hg
    obtain ⟨its, rv, p, hz⟩ := I.list hq
    obtain ⟨f0, f1, f2, f3, f4, f5⟩ := hf it (by simp)
    have hl := rv.length
    exact wpAny_pyNext_list_end (I.ok.hd hc) st p.isList (by simp; omega) fun h' eb => ⟨rfl, I.turned (t' := s.toks) (fun b o hb e => eb b o hb e) f0 f1 f3 f4 f5⟩
  self := fun _ _ _ _ _ st h => wpAny_pyIter_listiter st h
theorem turn_range {P : Program} {w : World} {K : PySem.W.Frag} {tg : Expr} (it : Addr) (lo : Int) (n : Nat) : Turn P w K tg (Itr lo n) [it] it (fun i h => IsRangeIter h it (lo + (i : Nat) * 1) ((n : Int) - (i : Nat)) 1) where
  mem := by simp
  obj := fun i h st b hb => by
    have e : b = it := by simpa using hb
    subst e
    exact ⟨_, st, fun v z => by
      have z' : Data.fields _ = Data.cell v := z
      cases z'⟩
  keep := fun i h h' st k => k it (by simp) _ st
  item := by
    intro X hP hw hK hc i pins s σ H E I hf st hg
    subst hP hw hK
    obtain ⟨f0, f1, f2, f3, f4, f5⟩ := hf it (by simp)
    have W := Walks.range (prog := X.prog) (w := X.w) (I.ok.hd hc) it lo 1 n
    refine W.item i s _ _ hg st fun v h' tk hv st' kk => ?_
    obtain ⟨t, rfl⟩ := hv
    have I1 : Inv X pins σ H { s with heap := h', toks := tk } := I.turned (fun b o hb e => kk b o (by simpa using hb) e) f0 f1 f3 f4 f5
    refine ⟨_, rfl, go_of (s := { s with heap := h', toks := tk }) (n := "range_iterator") st' rfl rfl (by decide) ⟨.int (lo + i), H, I1, ⟨t, ?_⟩, ⟨rfl, rfl⟩, st', fun b hb => (hf b hb).1⟩⟩
    rw [Int.mul_one]
  done := by
    intro X hP hw hK hc i pins s σ H E I hf st hg
    subst hP hw hK
    obtain ⟨f0, f1, f2, f3, f4, f5⟩ := hf it (by simp)
    exact wpAny_pyNext_range_end (I.ok.hd hc) st (by have : n ≤ i := hg; omega) fun h' eb => ⟨rfl, I.turned (t' := s.toks) (fun b o hb e => eb b o hb e) f0 f1 f3 f4 f5⟩
  self := fun _ _ _ _ _ st h => wpAny_pyIter_rangeiter st h
end L2

namespace L2
open PySem PySem.Spec PyProof.Rows
section
variable {X : Cx} {tg : Expr}
def iList (K : PySem.W.Frag) (tl : TE) : TI := fun σ H R => tl σ H fun x H1 => ∃ a, x = .ref a ∧ (∃ xs, SqL K H1 a xs) ∧ R (Itl K a) H1
def iTup (K : PySem.W.Frag) (tl : TE) : TI := fun σ H R => tl σ H fun x H1 => ∃ a, x = .ref a ∧ (∃ xs, SqT K H1 a xs) ∧ R (Itt K a) H1
theorem pi_list {l : Expr} {tl : TE} (hl : PE X l tl) : PI X tg l (iList X.K tl) := by
  intro pins s σ H R I h
  refine thn (hl pins s σ H _ I h) fun v s1 ⟨x, H1, I1, r1, q1⟩ => ?_
  obtain ⟨a, e, ⟨xs, hq⟩, q⟩ := q1
  subst e
  cases r1
  obtain ⟨its, rv, p, hz⟩ := I1.list hq
  refine wpAny_pyIter_list p.isList ?_
  refine ⟨s1.heap.objs.size, [s1.heap.objs.size], _, _, H1, rfl, I1.kept (t' := s1.toks) fun b o e => Heap.get?_push_of_some _ e, turn_list a _, ⟨_, Heap.get?_push_size _ rfl, rfl, rfl⟩, fun b hb => ?_, q⟩
  have e : b = s1.heap.objs.size := by simpa using hb
  subst e
  exact I1.fpOk (Nat.le_refl _) (I1.hok.fresh (Nat.le_refl _))
theorem range_it {pins : List (Addr × Obj)} {σ : St} {H : Hp} {s : Shared} {R : It → Hp → Prop} {E : Value → Shared → Prop} {lo hi : Int} {t u v : Tok} {tk : Nat} (I : Inv X pins σ H s) (h1 : -(2 ^ 62) ≤ lo) (h2 : lo < 2 ^ 62) (h3 : -(2 ^ 62) ≤ hi) (h4 : hi < 2 ^ 62)
    (q : R (Itr lo (hi - lo).toNat) H) : wpAny (model X.prog X.w) X.A (pyIter (.ref s.heap.objs.size)) (PIE X pins σ tg R) E { s with heap := s.heap.push { cls := .type "range", data := .fields #[.int lo t, .int hi u, .int 1 v] }, toks := tk } := by
  refine wpAny_pyIter_range (IsRange.new ..) (small_one h1 h2 h3 h4) ?_
  have I1 : Inv X pins σ H { s with heap := s.heap.push { cls := .type "range", data := .fields #[.int lo t, .int hi u, .int 1 v] }, toks := tk } := I.kept fun b o e => Heap.get?_push_of_some _ e
  refine ⟨(s.heap.push { cls := .type "range", data := .fields #[.int lo t, .int hi u, .int 1 v] }).objs.size, [(s.heap.push { cls := .type "range", data := .fields #[.int lo t, .int hi u, .int 1 v] }).objs.size], _, _, H, rfl,
    I1.kept (t' := tk) fun b o e => Heap.get?_push_of_some _ e, turn_range _ lo (hi - lo).toNat, ?_, fun b hb => ?_, q⟩
  · have e1 : lo + ((0 : Nat) : Int) * 1 = lo := by simp
    have e2 : (((hi - lo).toNat : Nat) : Int) - ((0 : Nat) : Int) = Builtin.Range.rangeSize lo hi 1 := by rw [rangeSize_one]; split <;> omega
    show IsRangeIter _ _ (lo + ((0 : Nat) : Int) * 1) ((((hi - lo).toNat : Nat) : Int) - ((0 : Nat) : Int)) 1
    rw [e1, e2]
    exact Heap.get?_push_size _ rfl
  · have e : b = (s.heap.push { cls := .type "range", data := .fields #[.int lo t, .int hi u, .int 1 v] }).objs.size := by simpa using hb
    subst e
    exact I1.fpOk (Nat.le_refl _) (I1.hok.fresh (Nat.le_refl _))
def iRng1 (ta : TA) : TI := fun σ H R => ta σ H fun vs H1 => ∃ j : Int, vs = [.int j] ∧ -(2 ^ 62) ≤ j ∧ j < 2 ^ 62 ∧ R (Itr 0 j.toNat) H1
def iRng2 (ta : TA) : TI := fun σ H R => ta σ H fun vs H1 => ∃ i j : Int, vs = [.int i, .int j] ∧ (-(2 ^ 62) ≤ i ∧ i < 2 ^ 62 ∧ -(2 ^ 62) ≤ j ∧ j < 2 ^ 62) ∧ R (Itr i (j - i).toNat) H1
theorem pi_range1 {a : Expr} {ta : TA} {p pos : Pos} (hg : Gl X "range") (hm : X.mg "range" = none) (ha : PA X [a] ta) (hs : starEach [a] X.env = [(false, eval a X.env)] := by rfl) : PI X tg (.Call (.Name "range" p) [a] [] pos) (iRng1 ta) := by
  intro pins s σ H R I h
  refine Call_ (ld_blt I hg hm boot_range (PyProof.Rows.callWith_type1 (thn (ha pos pins s σ H _ I h) fun us s1 ⟨vs, H1, I1, r1, q1⟩ => ?_) hs rfl))
  obtain ⟨j, e, q1, q2, q⟩ := q1
  subst e
  cases r1 with
  | cons r rr =>
    cases rr
    obtain ⟨t, rfl⟩ := r
    exact call_range_1 (range_it I1 (by omega) (by omega) q1 q2 (by simpa using q))
theorem pi_range2 {a b : Expr} {ta : TA} {p pos : Pos} (hg : Gl X "range") (hm : X.mg "range" = none) (ha : PA X [a, b] ta) (hs : starEach [a, b] X.env = [(false, eval a X.env), (false, eval b X.env)] := by rfl) (hs2 : starEach [b] X.env = [(false, eval b X.env)] := by rfl) :
    PI X tg (.Call (.Name "range" p) [a, b] [] pos) (iRng2 ta) := by
  intro pins s σ H R I h
  refine Call_ (ld_blt I hg hm boot_range (PyProof.Rows.callWith_type1 (thn (ha pos pins s σ H _ I h) fun us s1 ⟨vs, H1, I1, r1, q1⟩ => ?_) (by rw [hs, hs2]) (by rw [hs2]; rfl)))
  obtain ⟨i, j, e, ⟨q1, q2, q3, q4⟩, q⟩ := q1
  subst e
  cases r1 with
  | cons r rr =>
    cases rr with
    | cons r' rr =>
      cases rr
      obtain ⟨t, rfl⟩ := r
      obtain ⟨t', rfl⟩ := r'
      exact call_range_2 (range_it I1 q1 q2 q3 q4 q)

def tFor (wi : TI) (g : TG) (tb : TS) : TS := fun D σ H => wi σ H fun J H1 => ∃ W : Nat → Nat → St → Hp → Prop, (∃ m, W 0 m σ H1) ∧ ∀ i m σ H, W i m σ H →
  (J.stop i H ∧ D.nx σ H) ∨ (J.go i H ∧ ∃ N : St → Hp → Prop, (∀ σ' H', N σ' H' → ∃ m', m' < m ∧ W (i + 1) m' σ' H') ∧ ∀ x H', J.yld i H x H' → g x σ H' fun σ2 H2 => tb { D with nx := N, ct := N, bk := D.nx } σ2 H2)
def pinsAt (fp : List Addr) (h : Heap) : List (Addr × Obj) := fp.filterMap fun b => (h.get? b).map fun o => (b, o)
theorem mem_pinsAt {fp : List Addr} {h : Heap} {b : Addr} {o : Obj} (hb : b ∈ fp) (e : h.get? b = some o) : (b, o) ∈ pinsAt fp h := List.mem_filterMap.mpr ⟨b, hb, by rw [e]; rfl⟩
theorem of_pinsAt {fp : List Addr} {h : Heap} {p : Addr × Obj} (hp : p ∈ pinsAt fp h) : p.1 ∈ fp ∧ h.get? p.1 = some p.2 := by
  obtain ⟨b, hb, e⟩ := List.mem_filterMap.mp hp
  cases q : h.get? b with
  | none => rw [q] at e; cases e
  | some o =>
    rw [q] at e
    have e' : (b, o) = p := Option.some.inj e
    subst e'
    exact ⟨hb, q⟩
theorem Inv.pinned {pins : List (Addr × Obj)} {σ : St} {H : Hp} {s : Shared} {fp : List Addr} (I : Inv X pins σ H s) (hf : ∀ b ∈ fp, FpOk X pins H b) (ho : ∀ b ∈ fp, ∃ o, s.heap.get? b = some o ∧ ∀ v, o.data ≠ .cell v) : Inv X (pins ++ pinsAt fp s.heap) σ H s :=
  I.pins_of fun p hp => (List.mem_append.mp hp).elim (fun z => I.pin p (List.mem_append_right _ z)) fun z => by
    obtain ⟨hb, e⟩ := of_pinsAt z
    obtain ⟨f0, f1, f2, _⟩ := hf p.1 hb
    obtain ⟨o, e', d⟩ := ho p.1 hb
    rw [e] at e'; cases e'
    exact ⟨e, f0, f1, f2, d⟩
theorem Inv.unpinned {pins pl : List (Addr × Obj)} {σ : St} {H : Hp} {s : Shared} (I : Inv X (pins ++ pl) σ H s) : Inv X pins σ H s := I.pins_of fun p hp => I.pin p (List.mem_append_right _ (List.mem_append_left _ hp))
theorem ps_for {iter : Expr} {body : List Stmt} {wi : TI} {g : TG} {tb : TS} {pos : Pos} (hp : PassesOwn (model X.prog X.w) X.A X.env X.xe) (hc : X.calm = true) (hi : PI X tg iter wi) (hg : PG X tg g) (hb : PSs X body tb)
    (hs : ∀ x, foldedSetIterable iter X.env x = pure x := by intro _; rfl) : PS X (.For tg iter body [] pos) (tFor wi g tb) := by
  intro pins s σ H D I h
  refine wpAny_For (thn (hi pins s σ H _ I h) fun v s1 h1 => thn h1 fun itv s2 h2 => ?_) hs
  obtain ⟨it, fp, tn, J, H2, e, I2, T, st2, f2, W, ⟨m0, w0⟩, turn⟩ := h2
  subst e
  -- what stays true of the iterator's objects through the loop
  have stat : ∀ {H' : Hp}, (∀ b ∈ fp, H' b = none) → ∀ b ∈ fp, FpOk X pins H' b := fun hn b hb => ⟨hn b hb, (f2 b hb).2⟩
  refine codeAny_forLoop_any (fun n s' => ∃ i σ' H', Inv X pins σ' H' s' ∧ tn i s'.heap ∧ (∀ b ∈ fp, H' b = none) ∧ W i n σ' H') ?_ m0 ⟨0, σ, H2, I2, st2, fun b hb => (f2 b hb).1, w0⟩
  rintro n s3 ⟨i, σ3, H3, I3, st3, fr3, w3⟩
  rcases turn i n σ3 H3 w3 with ⟨stop, qn⟩ | ⟨go, N, hN, step⟩
  · refine wpAny_passesOwn hp (thn (T.done X rfl rfl rfl hc i pins s3 σ3 H3 X.xe I3 (stat fr3) st3 stop) fun r s4 ⟨hr, I4⟩ => ?_)
    subst hr
    exact wpAny_execs_nil ⟨σ3, H3, I4, qn⟩
  · refine wpAny_passesOwn hp (thn (T.item X rfl rfl rfl hc i pins s3 σ3 H3 X.xe I3 (stat fr3) st3 go) fun r s4 ⟨u, hr, h4⟩ => ?_)
    subst hr
    refine wpAny_passesOwn hp (thn h4 fun _ s5 ⟨x, H5, I5, r5, y5, st5, fr5⟩ => ?_)
    have I5' := I5.pinned (stat fr5) (T.obj _ _ st5)
    refine wpAny_passesOwn hp (thn (hg _ s5 σ3 H5 x u _ I5' r5 (step x H5 y5)) fun _ s6 ⟨σ6, H6, I6, q6⟩ => ?_)
    refine wpAny_passesOwn hp (thn (hb _ s6 σ6 H6 _ I6 q6) fun f s7 q7 => ?_)
    have again : ∀ {σ7 : St} {H7 : Hp}, Inv X (pins ++ pinsAt fp s5.heap) σ7 H7 s7 → N σ7 H7 → ∃ m, m < n ∧ ∃ i σ' H', Inv X pins σ' H' s7 ∧ tn i s7.heap ∧ (∀ b ∈ fp, H' b = none) ∧ W i m σ' H' := fun {σ7 H7} I7 n7 => by
      obtain ⟨m', hm, w7⟩ := hN σ7 H7 n7
      refine ⟨m', hm, i + 1, σ7, H7, I7.unpinned, T.keep _ _ _ st5 fun b hb o e => (I7.pin (b, o) (List.mem_append_right _ (List.mem_append_right _ (mem_pinsAt hb e)))).1, fun b hb => ?_, w7⟩
      obtain ⟨o, e, d⟩ := T.obj _ _ st5 b hb
      exact (I7.pin (b, o) (List.mem_append_right _ (List.mem_append_right _ (mem_pinsAt hb e)))).2.1
    cases f with
    | next => obtain ⟨σ7, H7, I7, n7⟩ := q7; exact again I7 n7
    | cont => obtain ⟨σ7, H7, I7, n7⟩ := q7; exact again I7 n7
    | brk => obtain ⟨σ7, H7, I7, q7⟩ := q7; exact ⟨σ7, H7, I7.unpinned, q7⟩
    | ret v => obtain ⟨x7, σ7, H7, I7, r7, q7⟩ := q7; exact ⟨x7, σ7, H7, I7.unpinned, r7, q7⟩
end

theorem for_list {K : PySem.W.Frag} {a : Addr} {xs : List V} {g : TG} {tb : TS} {D : Ends} {σ : St} {H : Hp} (Pv : Nat → St → Hp → Prop) (h0 : Pv 0 σ H) (hl : ∀ i σ H, i ≤ xs.length → Pv i σ H → SqL K H a xs)
    (hs : ∀ i x σ H, xs[i]? = some x → Pv i σ H → g x σ H fun σ2 H2 => tb { D with nx := Pv (i + 1), ct := Pv (i + 1), bk := D.nx } σ2 H2) (hd : ∀ σ H, Pv xs.length σ H → D.nx σ H) :
    ∃ W : Nat → Nat → St → Hp → Prop, (∃ m, W 0 m σ H) ∧ ∀ i m σ H, W i m σ H →
      ((Itl K a).stop i H ∧ D.nx σ H) ∨ ((Itl K a).go i H ∧ ∃ N : St → Hp → Prop, (∀ σ' H', N σ' H' → ∃ m', m' < m ∧ W (i + 1) m' σ' H') ∧ ∀ x H', (Itl K a).yld i H x H' → g x σ H' fun σ2 H2 => tb { D with nx := N, ct := N, bk := D.nx } σ2 H2) := by
  refine ⟨fun i m σ H => m = xs.length - i ∧ i ≤ xs.length ∧ Pv i σ H, ⟨xs.length, by simp, Nat.zero_le _, h0⟩, ?_⟩
  rintro i m σ H ⟨rfl, hi, p⟩
  have q := hl i σ H hi p
  by_cases hlt : i < xs.length
  · refine .inr ⟨⟨xs, xs[i], q, by simp [hlt]⟩, Pv (i + 1), fun σ' H' p' => ⟨xs.length - (i + 1), by omega, rfl, hlt, p'⟩, fun x H' y => ?_⟩
    obtain ⟨e, y⟩ := y
    subst e
    exact hs i x σ _ (y xs q) p
  · have e : i = xs.length := by omega
    subst e
    exact .inl ⟨⟨xs, q, Nat.le_refl _⟩, hd σ H p⟩
theorem for_range {lo : Int} {n : Nat} {g : TG} {tb : TS} {D : Ends} {σ : St} {H : Hp} (Pv : Nat → St → Hp → Prop) (h0 : Pv 0 σ H)
    (hs : ∀ i σ H, i < n → Pv i σ H → g (.int (lo + i)) σ H fun σ2 H2 => tb { D with nx := Pv (i + 1), ct := Pv (i + 1), bk := D.nx } σ2 H2) (hd : ∀ σ H, Pv n σ H → D.nx σ H) :
    ∃ W : Nat → Nat → St → Hp → Prop, (∃ m, W 0 m σ H) ∧ ∀ i m σ H, W i m σ H →
      ((Itr lo n).stop i H ∧ D.nx σ H) ∨ ((Itr lo n).go i H ∧ ∃ N : St → Hp → Prop, (∀ σ' H', N σ' H' → ∃ m', m' < m ∧ W (i + 1) m' σ' H') ∧ ∀ x H', (Itr lo n).yld i H x H' → g x σ H' fun σ2 H2 => tb { D with nx := N, ct := N, bk := D.nx } σ2 H2) := by
  refine ⟨fun i m σ H => m = n - i ∧ i ≤ n ∧ Pv i σ H, ⟨n, by simp, Nat.zero_le _, h0⟩, ?_⟩
  rintro i m σ H ⟨rfl, hi, p⟩
  by_cases hlt : i < n
  · refine .inr ⟨hlt, Pv (i + 1), fun σ' H' p' => ⟨n - (i + 1), by omega, rfl, hlt, p'⟩, fun x H' y => ?_⟩
    obtain ⟨e, y⟩ := y
    subst e y
    exact hs i σ _ hlt p
  · have e : i = n := by omega
    subst e
    exact .inl ⟨Nat.le_refl _, hd σ H p⟩
end L2

namespace L2
open PySem PySem.Spec PyProof.Rows

abbrev R2 := V → V → Hp → VK → Prop
def OpR (X : Cx) (f : Value → Value → Sem Value) (r : R2) : Prop :=
  ∀ (pins : List (Addr × Obj)) (s : Shared) (σ : St) (H : Hp) (x y : V) (v u : Value) (Q : VK), Inv X pins σ H s → RelV x v → RelV y u → r x y H Q →
    wpAny (model X.prog X.w) X.A (f v u) (EP X pins σ Q) X.xe s
def UnR (X : Cx) (f : Value → Sem Value) (r : V → Hp → VK → Prop) : Prop :=
  ∀ (pins : List (Addr × Obj)) (s : Shared) (σ : St) (H : Hp) (x : V) (v : Value) (Q : VK), Inv X pins σ H s → RelV x v → r x H Q →
    wpAny (model X.prog X.w) X.A (f v) (EP X pins σ Q) X.xe s
def CallR (X : Cx) (f : Value) (r : List V → Hp → VK → Prop) : Prop :=
  ∀ (pins : List (Addr × Obj)) (s : Shared) (σ : St) (H : Hp) (xs : List V) (us : List Value) (Q : VK), Inv X pins σ H s → Vals xs us → r xs H Q →
    wpAny (model X.prog X.w) X.A (call f us) (EP X pins σ Q) X.xe s
def TruR (X : Cx) (r : V → Hp → (Bool → Hp → Prop) → Prop) : Prop :=
  ∀ (pins : List (Addr × Obj)) (s : Shared) (σ : St) (H : Hp) (x : V) (v : Value) (Q : Bool → Hp → Prop), Inv X pins σ H s → RelV x v → r x H Q →
    wpAny (model X.prog X.w) X.A (truthy v) (TP X pins σ Q) X.xe s

def tOp (r : R2) (ta tb : TE) : TE := fun σ H Q => ta σ H fun x H1 => tb σ H1 fun y H2 => r x y H2 Q
def tUn (r : V → Hp → VK → Prop) (ta : TE) : TE := fun σ H Q => ta σ H fun x H1 => r x H1 Q
def rI (C : Int → Int → Prop) (g : Int → Int → V) : R2 := fun x y H Q => ∃ i j, x = .int i ∧ y = .int j ∧ C i j ∧ Q (g i j) H
def rI0 (g : Int → Int → V) : R2 := fun x y H Q => ∃ i j, x = .int i ∧ y = .int j ∧ Q (g i j) H
def rU (g : Int → V) : V → Hp → VK → Prop := fun x H Q => ∃ i, x = .int i ∧ Q (g i) H

section
variable {X : Cx} {a b c : Expr} {ta tb tc : TE} {pos : Pos}

theorem binT (ha : PE X a ta) (hb : PE X b tb) {pins : List (Addr × Obj)} {s : Shared} {σ : St} {H : Hp} {R : V → V → Hp → Prop} (I : Inv X pins σ H s)
    (h : ta σ H fun x H1 => tb σ H1 fun y H2 => R x y H2) {Q : Value → Shared → Prop} {f : Value → Value → Sem Value}
    (hf : ∀ v u s2 x y H2, Inv X pins σ H2 s2 → RelV x v → RelV y u → R x y H2 → wpAny (model X.prog X.w) X.A (f v u) Q X.xe s2) :
    wpAny (model X.prog X.w) X.A (eval a X.env) (fun v s₁ => wpAny (model X.prog X.w) X.A (eval b X.env) (fun u s₂ => wpAny (model X.prog X.w) X.A (f v u) Q X.xe s₂) X.xe s₁) X.xe s := by
  refine thn (ha pins s σ H _ I h) fun v s1 ⟨x, H1, I1, r1, q1⟩ => ?_
  refine thn (hb pins s1 σ H1 _ I1 q1) fun u s2 ⟨y, H2, I2, r2, q2⟩ => ?_
  exact hf v u s2 x y H2 I2 r1 r2 q2

theorem pe_op {op : Operator} {r : R2} (ho : OpR X (binaryOp op) r) (ha : PE X a ta) (hb : PE X b tb) : PE X (.BinOp a op b pos) (tOp r ta tb) := by
  intro pins s σ H Q I h
  exact wpAny_BinOp (binT ha hb I h fun v u s2 x y H2 I2 rx ry q => ho pins s2 σ H2 x y v u Q I2 rx ry q)
theorem pe_un {op : UnaryOp} {r : V → Hp → VK → Prop} (ho : UnR X (unaryOp op) r) (ha : PE X a ta) : PE X (.UnaryOp op a pos) (tUn r ta) := by
  intro pins s σ H Q I h
  exact UnaryOp_ (thn (ha pins s σ H _ I h) fun v s1 ⟨x, H1, I1, r1, q1⟩ => ho pins s1 σ H1 x v Q I1 r1 q1)
theorem opI {f : Value → Value → Sem Value} {C : Int → Int → Prop} {g : Int → Int → Int}
    (rule : ∀ (i j : Int) (t u : Tok) (s : Shared) (Q : Value → Shared → Prop) (E : Value → Shared → Prop), C i j → Q (.int (g i j) s.toks) { s with toks := s.toks + 1 } → wpAny (model X.prog X.w) X.A (f (.int i t) (.int j u)) Q E s) :
    OpR X f (rI C fun i j => .int (g i j)) := by
  intro pins s σ H x y v u Q I rx ry h
  obtain ⟨i, j, rfl, rfl, hc, q⟩ := h
  obtain ⟨t, rfl⟩ := rx
  obtain ⟨t', rfl⟩ := ry
  exact rule i j t t' s _ _ hc ⟨.int (g i j), H, I.tok _, ⟨_, rfl⟩, q⟩
theorem opI0 {f : Value → Value → Sem Value} {g : Int → Int → Int}
    (rule : ∀ (i j : Int) (t u : Tok) (s : Shared) (Q : Value → Shared → Prop) (E : Value → Shared → Prop), Q (.int (g i j) s.toks) { s with toks := s.toks + 1 } → wpAny (model X.prog X.w) X.A (f (.int i t) (.int j u)) Q E s) :
    OpR X f (rI0 fun i j => .int (g i j)) := by
  intro pins s σ H x y v u Q I rx ry h
  obtain ⟨i, j, rfl, rfl, q⟩ := h
  obtain ⟨t, rfl⟩ := rx
  obtain ⟨t', rfl⟩ := ry
  exact rule i j t t' s _ _ ⟨.int (g i j), H, I.tok _, ⟨_, rfl⟩, q⟩
theorem opB0 {f : Value → Value → Sem Value} {g : Int → Int → Bool}
    (rule : ∀ (i j : Int) (t u : Tok) (s : Shared) (Q : Value → Shared → Prop) (E : Value → Shared → Prop), Q (.bool (g i j)) s → wpAny (model X.prog X.w) X.A (f (.int i t) (.int j u)) Q E s) :
    OpR X f (rI0 fun i j => .bl (g i j)) := by
  intro pins s σ H x y v u Q I rx ry h
  obtain ⟨i, j, rfl, rfl, q⟩ := h
  obtain ⟨t, rfl⟩ := rx
  obtain ⟨t', rfl⟩ := ry
  exact rule i j t t' s _ _ ⟨.bl (g i j), H, I, rfl, q⟩

def CDiv (i j : Int) : Prop := 0 < j ∧ j < 1073741824
def CDivN (i j : Int) : Prop := j ≠ 0 ∧ j.natAbs < 1073741824
def CPow (i j : Int) : Prop := 0 ≤ j ∧ j ≤ 1000000 ∧ i.natAbs < 2 ^ 64
def CMul (i j : Int) : Prop := (-(2 ^ 64) < i ∧ i < 2 ^ 64) ∨ (-(2 ^ 64) < j ∧ j < 2 ^ 64)
theorem op_add : OpR X (binaryOp .Add) (rI0 fun i j => .int (i + j)) := opI0 fun _ _ _ _ _ _ _ q => add_int q
theorem op_sub : OpR X (binaryOp .Sub) (rI0 fun i j => .int (i - j)) := opI0 fun _ _ _ _ _ _ _ q => sub_int q
theorem op_mod : OpR X (binaryOp .Mod) (rI (fun _ j => 0 < j) fun i j => .int (i % j)) := opI fun i j _ _ _ _ _ hc q => by
  have h1 : (0 : Int) < j := hc
  exact mod_int' (by omega) (by rw [Int.fmod_eq_emod_of_nonneg i (by omega)]; exact q)
theorem op_pow : OpR X (binaryOp .Pow) (rI CPow fun i j => .int (i ^ j.toNat)) := opI fun _ _ _ _ _ _ _ hc q => pow_int_small hc.1 hc.2.1 hc.2.2 q
theorem op_shl : OpR X (binaryOp .LShift) (rI CPow fun i j => .int (i * 2 ^ j.toNat)) := opI fun _ _ _ _ _ _ _ hc q => lshift_int_small hc.1 hc.2.1 hc.2.2 q
theorem op_and : OpR X (binaryOp .BitAnd) (rI0 fun i j => .int (Builtin.bitAnd i j)) := opI0 fun _ _ _ _ _ _ _ q => and_int q
theorem unI {f : Value → Sem Value} {g : Int → Int}
    (rule : ∀ (i : Int) (t : Tok) (s : Shared) (Q : Value → Shared → Prop) (E : Value → Shared → Prop), Q (.int (g i) s.toks) { s with toks := s.toks + 1 } → wpAny (model X.prog X.w) X.A (f (.int i t)) Q E s) :
    UnR X f (rU fun i => .int (g i)) := by
  intro pins s σ H x v Q I rx h
  obtain ⟨i, rfl, q⟩ := h
  obtain ⟨t, rfl⟩ := rx
  exact rule i t s _ _ ⟨.int (g i), H, I.tok _, ⟨_, rfl⟩, q⟩
theorem un_neg : UnR X (unaryOp .USub) (rU fun i => .int (-i)) := unI fun _ _ _ _ _ q => neg_int q
end

def scal : V → V → Bool
  | .non, .non => true | .non, .int _ => true | .int _, .non => true | .non, .bl _ => true | .bl _, .non => true | .non, .str _ => true | .str _, .non => true
  | .int _, .int _ => true | .bl _, .bl _ => true | .str _, .str _ => true | .byt _, .byt _ => true
  | .int _, .str _ => true | .str _, .int _ => true | .bl _, .str _ => true | .str _, .bl _ => true
  | _, _ => false
def rEq : R2 := fun x y H Q => scal x y = true ∧ Q (.bl (decide (x = y))) H
def rNe : R2 := fun x y H Q => scal x y = true ∧ Q (.bl (!decide (x = y))) H

theorem dec_int {i j : Int} : decide (V.int i = V.int j) = (i == j) := by
  rw [Bool.eq_iff_iff]
  simp
theorem dec_bl {i j : Bool} : decide (V.bl i = V.bl j) = (i == j) := by
  rw [Bool.eq_iff_iff]
  simp
theorem dec_str {i j : Str} : decide (V.str i = V.str j) = (i == j) := by
  rw [Bool.eq_iff_iff]
  simp
theorem dec_byt {i j : Array UInt8} : decide (V.byt i = V.byt j) = (i.toList == j.toList) := by
  rw [Bool.eq_iff_iff]
  cases i
  cases j
  simp

section
variable {X : Cx} {a b c : Expr} {ta tb tc : TE} {pos : Pos}
theorem fin_bl {pins : List (Addr × Obj)} {σ : St} {H : Hp} {s : Shared} {Q : VK} {k k' : Bool} (I : Inv X pins σ H s) (q : Q (.bl k) H) (e : k = k') : EP X pins σ Q (.bool k') s := by
  subst e
  exact ⟨.bl k, H, I, rfl, q⟩
theorem op_eq : OpR X (compareOp .Eq) rEq := by
  intro pins s σ H x y v u Q I rx ry h
  obtain ⟨hs, q⟩ := h
  cases x with
  | non =>
    cases rx
    cases y with
    | non => cases ry; exact PySem.EqNone.eq_none_none (fin_bl I q (by simp))
    | bl j => cases ry; exact PySem.EqNone.eq_none_bool (fin_bl I q (by simp))
    | int j => obtain ⟨t', rfl⟩ := ry; exact PySem.EqNone.eq_none_int (fin_bl I q (by simp))
    | str j => obtain ⟨t', rfl⟩ := ry; exact PySem.EqNone.eq_none_str (fin_bl I q (by simp))
    | _ => exact absurd (show false = true from hs) Bool.false_ne_true
  | bl i =>
    cases rx
    cases y with
    | non => cases ry; exact PySem.EqNone.eq_bool_none (fin_bl I q (by simp))
    | bl j => cases ry; exact eq_bool (fin_bl I q dec_bl)
    | str j => obtain ⟨t', rfl⟩ := ry; exact PySem.EqMixed.eq_bool_str (fin_bl I q (by simp))
    | _ => exact absurd (show false = true from hs) Bool.false_ne_true
  | int i =>
    obtain ⟨t, rfl⟩ := rx
    cases y with
    | non => cases ry; exact PySem.EqNone.eq_int_none (fin_bl I q (by simp))
    | int j => obtain ⟨t', rfl⟩ := ry; exact eq_int (fin_bl I q dec_int)
    | str j => obtain ⟨t', rfl⟩ := ry; exact PySem.EqMixed.eq_int_str (fin_bl I q (by simp))
    | _ => exact absurd (show false = true from hs) Bool.false_ne_true
  | str i =>
    obtain ⟨t, rfl⟩ := rx
    cases y with
    | non => cases ry; exact PySem.EqNone.eq_str_none (fin_bl I q (by simp))
    | bl j => cases ry; exact PySem.EqMixed.eq_str_bool (fin_bl I q (by simp))
    | int j => obtain ⟨t', rfl⟩ := ry; exact PySem.EqMixed.eq_str_int (fin_bl I q (by simp))
    | str j => obtain ⟨t', rfl⟩ := ry; exact eq_str (fin_bl I q dec_str)
    | _ => exact absurd (show false = true from hs) Bool.false_ne_true
  | byt i =>
    obtain ⟨t, rfl⟩ := rx
    cases y with
    | byt j => obtain ⟨t', rfl⟩ := ry; exact PySem.W.eq_bytes (fin_bl I q dec_byt)
    | _ => exact absurd (show false = true from hs) Bool.false_ne_true
  | _ => cases y <;> exact absurd (show false = true from hs) Bool.false_ne_true
theorem op_ne : OpR X (compareOp .NotEq) rNe := by
  intro pins s σ H x y v u Q I rx ry h
  obtain ⟨hs, q⟩ := h
  cases x with
  | non =>
    cases rx
    cases y with
    | non => cases ry; exact PySem.EqNone.ne_none_none (fin_bl I q (by simp))
    | bl j => cases ry; exact PySem.EqNone.ne_none_bool (fin_bl I q (by simp))
    | int j => obtain ⟨t', rfl⟩ := ry; exact PySem.EqNone.ne_none_int (fin_bl I q (by simp))
    | str j => obtain ⟨t', rfl⟩ := ry; exact PySem.EqNone.ne_none_str (fin_bl I q (by simp))
    | _ => exact absurd (show false = true from hs) Bool.false_ne_true
  | bl i =>
    cases rx
    cases y with
    | non => cases ry; exact PySem.EqNone.ne_bool_none (fin_bl I q (by simp))
    | bl j => cases ry; exact ne_bool (fin_bl I q (congrArg not dec_bl))
    | str j => obtain ⟨t', rfl⟩ := ry; exact PySem.EqMixed.ne_bool_str (fin_bl I q (by simp))
    | _ => exact absurd (show false = true from hs) Bool.false_ne_true
  | int i =>
    obtain ⟨t, rfl⟩ := rx
    cases y with
    | non => cases ry; exact PySem.EqNone.ne_int_none (fin_bl I q (by simp))
    | int j => obtain ⟨t', rfl⟩ := ry; exact ne_int (fin_bl I q (congrArg not dec_int))
    | str j => obtain ⟨t', rfl⟩ := ry; exact PySem.EqMixed.ne_int_str (fin_bl I q (by simp))
    | _ => exact absurd (show false = true from hs) Bool.false_ne_true
  | str i =>
    obtain ⟨t, rfl⟩ := rx
    cases y with
    | non => cases ry; exact PySem.EqNone.ne_str_none (fin_bl I q (by simp))
    | bl j => cases ry; exact PySem.EqMixed.ne_str_bool (fin_bl I q (by simp))
    | int j => obtain ⟨t', rfl⟩ := ry; exact PySem.EqMixed.ne_str_int (fin_bl I q (by simp))
    | str j => obtain ⟨t', rfl⟩ := ry; exact ne_str (fin_bl I q (congrArg not dec_str))
    | _ => exact absurd (show false = true from hs) Bool.false_ne_true
  | byt i =>
    obtain ⟨t, rfl⟩ := rx
    cases y with
    | byt j => obtain ⟨t', rfl⟩ := ry; exact PySem.W.ne_bytes (fin_bl I q (congrArg not dec_byt))
    | _ => exact absurd (show false = true from hs) Bool.false_ne_true
  | _ => cases y <;> exact absurd (show false = true from hs) Bool.false_ne_true

theorem op_lt : OpR X (compareOp .Lt) (rI0 fun i j => .bl (decide (i < j))) := opB0 fun _ _ _ _ _ _ _ q => lt_int q
theorem op_le : OpR X (compareOp .LtE) (rI0 fun i j => .bl (decide (i ≤ j))) := opB0 fun _ _ _ _ _ _ _ q => le_int q
theorem op_gt : OpR X (compareOp .Gt) (rI0 fun i j => .bl (decide (j < i))) := opB0 fun _ _ _ _ _ _ _ q => gt_int q
theorem op_ge : OpR X (compareOp .GtE) (rI0 fun i j => .bl (decide (j ≤ i))) := opB0 fun _ _ _ _ _ _ _ q => ge_int q
def isObj : HO → Bool
  | .lst _ => true
  | .ins _ _ _ => true
  | _ => false
theorem nomark (b : Expr) {op : CmpOp} (h : op ≠ .In := by decide) (h2 : op ≠ .NotIn := by decide) : behindInMarks op b = false := by
  have e1 : (op == CmpOp.In) = false := by cases op <;> first | rfl | exact absurd rfl h
  have e2 : (op == CmpOp.NotIn) = false := by cases op <;> first | rfl | exact absurd rfl h2
  cases b <;> simp [behindInMarks, e1, e2]
theorem pe_cmpR {op : CmpOp} {r : R2} (ho : OpR X (compareOp op) r) (ha : PE X a ta) (hb : PE X b tb) (hm : behindInMarks op b = false) : PE X (.Compare a [op] [b] pos) (tOp r ta tb) := by
  intro pins s σ H Q I h
  exact wpAny_Compare1 (binT ha hb I h fun v u s2 x y H2 I2 rx ry q => ho pins s2 σ H2 x y v u Q I2 rx ry q) hm
def tTest (t : TE) : TT := fun σ H Q => t σ H fun x H' => ∃ k, x = .bl k ∧ Q k H'
theorem pt_cmpR {op : CmpOp} {r : R2} (ho : OpR X (compareOp op) r) (ha : PE X a ta) (hb : PE X b tb) (hm : behindInMarks op b = false) : PT X (.Compare a [op] [b] pos) (tTest (tOp r ta tb)) := by
  intro pins s σ H Q I h
  refine wpAny_isTrue_Compare1 (thn (ha pins s σ H _ I h) fun v s1 ⟨x, H1, I1, r1, q1⟩ => thn (hb pins s1 σ H1 _ I1 q1) fun u s2 ⟨y, H2, I2, r2, q2⟩ =>
    thn (ho pins s2 σ H2 x y v u _ I2 r1 r2 q2) fun c s3 ⟨z, H3, I3, r3, k, e, q3⟩ => ?_) hm
  subst e
  cases r3
  exact wpAny_truthy_bool ⟨H3, I3, q3⟩
def tChain (r r' : R2) (ta tb tc : TE) : TE := fun σ H Q => ta σ H fun x H1 => tb σ H1 fun y H2 => r x y H2 fun z H3 => ∃ k, z = .bl k ∧
  (if k = true then tc σ H3 fun w' H4 => r' y w' H4 Q else Q (.bl false) H3)
def TruV (K : PySem.W.Frag) (x : V) (H : Hp) (k : Bool) : Prop :=
  match x with
  | .non => k = false
  | .bl b => k = b
  | .int i => k = (i != 0)
  | .str y => y.length ≤ sizeLine ∧ k = ((y.length : Int) != 0)
  | .byt y => y.size ≤ sizeLine ∧ k = ((y.size : Int) != 0)
  | .ref p => (∃ xs, SqL K H p xs ∧ k = !xs.isEmpty) ∨ (∃ xs, SqT K H p xs ∧ k = !xs.isEmpty) ∨ ∃ kvs, H p = some (.dK kvs) ∧ k = !kvs.isEmpty
  | _ => False
theorem isEmpty_kv {κ : Type} {kvs : List (κ × V)} {vs : List (κ × Value)} (r : KV kvs vs) : (!vs.isEmpty) = !kvs.isEmpty := by
  cases r <;> rfl
theorem isEmpty_of {xs : List V} {its : List Value} (r : Vals xs its) : (!its.toArray.isEmpty) = !xs.isEmpty := by
  cases r <;> simp
theorem line63 : (sizeLine : Nat) < 2 ^ 63 := by rw [sizeLine_eq]; decide
theorem tru_ok : TruR X (fun x H Q => ∃ k, TruV X.K x H k ∧ Q k H) := by
  intro pins s σ H x v Q I rx h
  obtain ⟨k, e, q⟩ := h
  have hl := line63
  have hs : sizeLine = 16777216 := sizeLine_eq
  cases x with
  | non =>
    cases rx
    have e' : k = false := e
    subst e'
    exact truthy_none ⟨H, I, q⟩
  | bl b =>
    cases rx
    have e' : k = b := e
    subst e'
    exact wpAny_truthy_bool ⟨H, I, q⟩
  | int i =>
    obtain ⟨t, rfl⟩ := rx
    have e' : k = (i != 0) := e
    subst e'
    exact PySem.P.truthy_int ⟨H, I, q⟩
  | str y =>
    obtain ⟨t, rfl⟩ := rx
    obtain ⟨hy, e'⟩ : y.length ≤ sizeLine ∧ k = ((y.length : Int) != 0) := e
    subst e'
    exact PySem.P.truthy_str (by omega) ⟨H, I.tok _, q⟩
  | byt y =>
    obtain ⟨t, rfl⟩ := rx
    obtain ⟨hy, e'⟩ : y.size ≤ sizeLine ∧ k = ((y.size : Int) != 0) := e
    subst e'
    exact PySem.W.truthy_bytes (by omega) ⟨H, I.tok _, q⟩
  | ref p =>
    cases rx
    have e' : (∃ xs, SqL X.K H p xs ∧ k = !xs.isEmpty) ∨ (∃ xs, SqT X.K H p xs ∧ k = !xs.isEmpty) ∨ ∃ kvs, H p = some (.dK kvs) ∧ k = !kvs.isEmpty := e
    rcases e' with ⟨xs, hx, e'⟩ | ⟨xs, hx, e'⟩ | ⟨kvs, hx, e'⟩
    · subst e'
      obtain ⟨its, r, pl, hz⟩ := I.list hx
      have hlen := r.length
      exact wpAny_truthy_list pl.isList (by simp only [List.size_toArray]; omega) ⟨H, I.tok _, by rw [isEmpty_of r]; exact q⟩
    · subst e'
      obtain ⟨its, r, pl, hz⟩ := I.tuple hx
      have hlen := r.length
      exact truthy_tuple pl (by simp only [List.size_toArray]; omega) ⟨H, I.tok _, by rw [isEmpty_of r]; exact q⟩
    · subst e'
      obtain ⟨hz, hS, vs, r, m⟩ : kvs.length ≤ sizeLine ∧ (p == sysModules) = false ∧ ∃ vs, KV kvs vs ∧ s.heap.DictOf (mixKind X.prog X.w) p vs := I.hok p _ hx
      have hlen : kvs.length = vs.length := Paired.length r
      exact wpAny_truthy_dict hS m (by omega) ⟨H, I.tok _, by rw [isEmpty_kv r]; exact q⟩
  | _ => exact (show False from e).elim
theorem pt_truth (ha : PE X a ta) (he : ∀ whole, isTrue a X.env whole = (do let v ← whole; standAt a.pos; holding [v] (truthy v))) :
    PT X a (fun σ H Q => ta σ H fun x H' => ∃ k, TruV X.K x H' k ∧ Q k H') := by
  intro pins s σ H Q I h
  exact isTrue_plain (thn (ha pins s σ H _ I h) fun v s1 ⟨x, H1, I1, r1, q1⟩ => tru_ok pins s1 σ H1 x v Q I1 r1 q1) (he _)

def PlainIxT (b : Expr) : Prop := ∀ o i, subscripted b false o i = operate [o, i] (getItem o i)
theorem vals1 {x : V} {us : List Value} (r : Vals [x] us) : ∃ u, us = [u] ∧ RelV x u := by
  cases r with
  | cons r1 r2 => cases r2; exact ⟨_, rfl, r1⟩
theorem vals2 {x y : V} {us : List Value} (r : Vals [x, y] us) : ∃ u w', us = [u, w'] ∧ RelV x u ∧ RelV y w' := by
  cases r with
  | cons r1 r2 =>
    cases r2 with
    | cons r3 r4 => cases r4; exact ⟨_, _, rfl, r1, r3⟩
theorem call_max2 (hc : X.calm = true) : CallR X (.builtin "max") (fun xs H Q => ∃ i j, xs = [.int i, .int j] ∧ Q (.int (if j > i then j else i)) H) := by
  intro pins s σ H xs us Q I r h
  obtain ⟨i, j, rfl, q⟩ := h
  obtain ⟨u, w', rfl, ⟨t, rfl⟩, ⟨t', rfl⟩⟩ := vals2 r
  refine max_two_ints (I.ok.hd hc) fun h' tk k => ⟨_, H, I.kept k, ?_, q⟩
  by_cases hj : j > i
  · rw [if_pos hj, if_pos hj]; exact ⟨_, rfl⟩
  · rw [if_neg hj, if_neg hj]; exact ⟨_, rfl⟩
theorem call_min2 (hc : X.calm = true) : CallR X (.builtin "min") (fun xs H Q => ∃ i j, xs = [.int i, .int j] ∧ Q (.int (if j < i then j else i)) H) := by
  intro pins s σ H xs us Q I r h
  obtain ⟨i, j, rfl, q⟩ := h
  obtain ⟨u, w', rfl, ⟨t, rfl⟩, ⟨t', rfl⟩⟩ := vals2 r
  refine min_two_ints (I.ok.hd hc) fun h' tk k => ⟨_, H, I.kept k, ?_, q⟩
  by_cases hj : j < i
  · rw [if_pos hj, if_pos hj]; exact ⟨_, rfl⟩
  · rw [if_neg hj, if_neg hj]; exact ⟨_, rfl⟩
def LenV (K : PySem.W.Frag) (x : V) (H : Hp) (n : Nat) : Prop :=
  match x with
  | .str y => y.length ≤ sizeLine ∧ n = y.length
  | .byt y => y.size ≤ sizeLine ∧ n = y.size
  | .ref p => (∃ xs, SqL K H p xs ∧ n = xs.length) ∨ ∃ xs, SqT K H p xs ∧ n = xs.length
  | _ => False
end
end L2

namespace L2
open PySem PySem.Spec PyProof.Rows

structure ObjM (h : Heap) (x dx C : Addr) (mA : Str → Option Value) : Prop where
  obj : h.get? x = some (PySem.W.instObj C dx)
  ns : h.Ns1 dx mA
  ne : dx ≠ x

theorem lookIn_ns {h : Heap} {dx : Addr} {mA : Str → Option Value} (n : h.Ns1 dx mA) : ∃ od, h.get? dx = some od ∧ ∀ name, PySem.W.lookIn name od = some (mA name) := by
  obtain ⟨o, es, ep, ho, hd, hk, _, hm⟩ := n
  refine ⟨o, ho, fun name => ?_⟩
  have e := hm name
  unfold nsFind findBy at e
  rw [← Array.find?_toList] at e
  unfold PySem.W.lookIn
  rw [hd]
  dsimp only
  split
  · rename_i y q
    rw [q] at e
    exact congrArg some e
  · rename_i q
    rw [q] at e
    have a : es.toList.any (·.refKey) = false := by
      rw [List.any_eq_false]
      intro y hy
      obtain ⟨z, t, hkey⟩ := hk y (Array.mem_toList_iff.mp hy)
      simp [DictEntry.refKey, hkey]
    have a' : ¬ es.toList.any (·.refKey) = true := by rw [a]; exact Bool.false_ne_true
    rw [if_neg a']
    exact congrArg some e

theorem ObjM.look {h : Heap} {x dx C : Addr} {mA : Str → Option Value} (I : ObjM h x dx C mA) : ∃ od, PySem.W.InstAt h x (PySem.W.instObj C dx) C (some od) ∧ ∀ name, PySem.W.lookIn name od = some (mA name) :=
  let ⟨od, ho, hl⟩ := lookIn_ns I.ns
  ⟨od, ⟨I.obj, rfl, rfl, ho⟩, hl⟩

section
variable {prog : Program} {w : World} {A : Around} {E : Value → Shared → Prop} {s : Shared} {K : PySem.W.Frag} {x dx C f : Addr} {mA : Str → Option Value} {name : Str} {v : Value}

end

def putF (f : Str) (v : V) : List (Str × V) → List (Str × V)
  | [] => [(f, v)]
  | (g, x) :: r => if g = f then (g, v) :: r else (g, x) :: putF f v r
section
variable {P : Program} {w : World} {H H' : Hp} {h h' : Heap} {a C dx : Addr} {fs fs' : List (Str × V)}
theorem ins_get (hok : HOk P w H h) (e : H a = some (.ins C dx fs)) : ∃ mA, ObjM h a dx C mA ∧ (∀ f, RelO (fs.lookup f) (mA f)) ∧ PySem.Within mA (fs.map (·.1)) ∧ fs.length ≤ 1000 ∧ H dx = some (.own a) := by
  obtain ⟨d, z, ne, ob, mA, n, r, q⟩ := (show ObjOk P w H h a (.ins C dx fs) from hok a _ e)
  exact ⟨mA, ⟨ob, n, ne⟩, r, q, z, d⟩
end

structure Cls (K : PySem.W.Frag) (C : Addr) : Prop where
  pg : PySem.W.plainGet K C Str.empty = true
  hd : PySem.W.hasDictIn K C = true
  po : PySem.W.plainOver K C = true
  sa : PySem.W.findIn K (.ref C) "__setattr__" = some (some (.builtin "object.__setattr__"))
theorem Cls.get {K : PySem.W.Frag} {C : Addr} (c : Cls K C) (f : Str) : PySem.W.plainGet K C f = true := c.pg
def NoAttr (K : PySem.W.Frag) (C : Addr) (f : Str) : Prop := PySem.W.findIn K (.ref C) f = some none
structure Con (K : PySem.W.Frag) (C : Addr) (f : Str) (v : V) (u : Value) : Prop where
  at_ : PySem.W.findIn K (.ref C) f = some (some u)
  rel : RelV v u
  get : PySem.W.specialIn K u "__get__" = some none
  cp : PySem.W.copiedNames.contains f = false
structure Meth (K : PySem.W.Frag) (C : Addr) (m : Str) (f : Addr) : Prop where
  at_ : PySem.W.findIn K (.ref C) m = some (some (.ref f))
  fn : PySem.W.isFn K (.ref f) = true
  kp : PySem.W.keepIn K (.ref f) = true

section
variable {X : Cx} {pins : List (Addr × Obj)} {σ : St} {H : Hp} {s : Shared} {a C dx : Addr} {fs : List (Str × V)} {f : Str} {v : V} {A : Around} {E : Value → Shared → Prop}

end

def tFld (K : PySem.W.Frag) (ta : TE) (f : Str) : TE := fun σ H Q => ta σ H fun x H1 => ∃ a C dx fs v, x = .ref a ∧ H1 a = some (.ins C dx fs) ∧ Cls K C ∧ NoAttr K C f ∧ fs.lookup f = some v ∧ Q v H1
def tCon (K : PySem.W.Frag) (ta : TE) (f : Str) : TE := fun σ H Q => ta σ H fun x H1 => ∃ a C dx fs v u, x = .ref a ∧ H1 a = some (.ins C dx fs) ∧ Cls K C ∧ Con K C f v u ∧ fs.lookup f = none ∧ Q v H1
def sFld (K : PySem.W.Frag) (ta tv : TE) (f : Str) : TS := fun D σ H => tv σ H fun y H1 => ta σ H1 fun x H2 => ∃ a C dx fs, x = .ref a ∧ H2 a = some (.ins C dx fs) ∧ Cls K C ∧ NoAttr K C f ∧ fs.length < 1000 ∧
  D.nx σ (upd H2 a (.ins C dx (putF f y fs)))
def InOp (X : Cx) (op : Operator) (rd : V → V → Hp → VK → Prop) : Prop :=
  ∀ (pins : List (Addr × Obj)) (s : Shared) (σ : St) (H : Hp) (x y : V) (u v : Value) (Q : VK), Inv X pins σ H s → RelV x u → RelV y v → rd x y H Q → wpAny (model X.prog X.w) X.A (inplaceOp op u v) (EP X pins σ Q) X.xe s
def sFldAug (K : PySem.W.Frag) (ta tv : TE) (rd : V → V → Hp → VK → Prop) (f : Str) : TS := fun D σ H => ta σ H fun x H1 => ∃ a C dx fs v, x = .ref a ∧ H1 a = some (.ins C dx fs) ∧ Cls K C ∧ NoAttr K C f ∧ fs.lookup f = some v ∧
  tv σ H1 fun y H2 => rd v y H2 fun z H3 => ∃ dx' fs', H3 a = some (.ins C dx' fs') ∧ fs'.length < 1000 ∧ D.nx σ (upd H3 a (.ins C dx' (putF f z fs')))

section
variable {X : Cx} {o e value : Expr} {f : Str} {pos pos' tpos : Pos} {ta tv : TE}
def rAdd : V → V → Hp → VK → Prop := fun x y H Q => ∃ i j, x = .int i ∧ y = .int j ∧ Q (.int (i + j)) H
def rSub : V → V → Hp → VK → Prop := fun x y H Q => ∃ i j, x = .int i ∧ y = .int j ∧ Q (.int (i - j)) H
end

section
variable {X : Cx} {pins : List (Addr × Obj)} {σ : St} {H : Hp} {s : Shared} {A : Around} {E : Value → Shared → Prop} {Q : Value → Shared → Prop} {c : Value} {b : Bool}
inductive TyOf (K : PySem.W.Frag) (H : Hp) : V → Value → Prop where
  | non : TyOf K H .non (.type "NoneType")
  | bl (x : Bool) : TyOf K H (.bl x) (.type "bool")
  | int (i : Int) : TyOf K H (.int i) (.type "int")
  | str (x : Str) : TyOf K H (.str x) (.type "str")
  | flt (x : UInt64) : TyOf K H (.flt x) (.type "float")
  | lst {a : Addr} {xs : List V} (e : H a = some (.lst xs)) : TyOf K H (.ref a) (.type "list")
  | frz {a : Addr} {o : Obj} {xs : List V} (e : H a = some (.frz o (.lst xs))) : TyOf K H (.ref a) (.type "list")
  | tup {a : Addr} {xs : List V} (e : H a = some (.tup xs)) : TyOf K H (.ref a) (.type "tuple")
  | dK {a : Addr} {kvs : List (Key × V)} (e : H a = some (.dK kvs)) : TyOf K H (.ref a) (.type "dict")
  | dT {a : Addr} {kvs : List (List Key × V)} (e : H a = some (.dT kvs)) : TyOf K H (.ref a) (.type "dict")
  | ins {a C dx : Addr} {fs : List (Str × V)} (e : H a = some (.ins C dx fs)) (cl : Cls K C) (ha : PySem.W.findIn K (.ref C) "__class__" = some (some (.builtin "object.__class__")))
      (hn : PySem.W.specialIn K (.builtin "object.__class__") "__get__" = some (some (.builtin "getset_descriptor.__get__"))) (htk : PySem.W.takesIn K (.builtin "object.__class__") = some true)
      (hm : PySem.W.mroIn K C (.type "object") = some true) : TyOf K H (.ref a) (.ref C)
theorem isinst_ok {x : V} {u t : Value} (I : Inv X pins σ H s) (rx : RelV x u) (ty : TyOf X.K H x t) (e : PySem.W.kitOne X.K t c = some b) (h : ∀ tk, Q (.bool b) { s with toks := tk }) :
    wpAny (model X.prog X.w) A (call (.builtin "isinstance") [u, c]) Q E s := by
  cases ty with
  | non => cases (show u = Value.none from rx); exact PySem.W.kia_one PySem.W.kitx_none I.kIn True.intro e (fun z => nomatch z) h
  | bl y => cases (show u = Value.bool y from rx); exact PySem.W.kia_one PySem.W.kitx_bool I.kIn True.intro e (fun z => nomatch z) h
  | int i => obtain ⟨t, q⟩ := (show ∃ t, u = Value.int i t from rx); cases q; exact PySem.W.kia_one PySem.W.kitx_int I.kIn True.intro e (fun z => nomatch z) h
  | str y => obtain ⟨t, q⟩ := (show ∃ t, u = Value.str y t from rx); cases q; exact PySem.W.kia_one PySem.W.kitx_str I.kIn True.intro e (fun z => nomatch z) h
  | flt y => obtain ⟨t, q⟩ := (show ∃ t, u = Value.float y t from rx); cases q; exact PySem.W.kia_one PySem.W.kitx_float I.kIn True.intro e (fun z => nomatch z) h
  | @lst a xs ea =>
    cases (show u = Value.ref a from rx)
    obtain ⟨_, _, n, _, h1⟩ := (show ObjOk X.prog X.w H s.heap a (.lst xs) from I.hok a _ ea)
    exact PySem.W.kia_one PySem.W.kitx_list I.kIn ⟨_, h1, rfl⟩ e (fun z => nomatch z) h
  | @frz a ob xs ea =>
    cases (show u = Value.ref a from rx)
    obtain ⟨_, _, _, n, _, h1⟩ := (show ObjOk X.prog X.w H s.heap a (.frz ob (.lst xs)) from I.hok a _ ea)
    exact PySem.W.kia_one PySem.W.kitx_list I.kIn ⟨_, h1, rfl⟩ e (fun z => nomatch z) h
  | @tup a xs ea =>
    cases (show u = Value.ref a from rx)
    obtain ⟨_, _, _, p⟩ := (show ObjOk X.prog X.w H s.heap a (.tup xs) from I.hok a _ ea)
    obtain ⟨o, h1, h2, _⟩ := p
    exact PySem.W.kia_one PySem.W.kitx_tuple I.kIn ⟨o, h1, h2⟩ e (fun z => nomatch z) h
  | @dK a kvs ea =>
    cases (show u = Value.ref a from rx)
    obtain ⟨_, _, vs, _, p⟩ := (show ObjOk X.prog X.w H s.heap a (.dK kvs) from I.hok a _ ea)
    obtain ⟨o, es, ep, h1, h2, _⟩ := p
    exact PySem.W.kia_one PySem.W.kitx_dict I.kIn ⟨o, h1, h2.1⟩ e (fun z => nomatch z) h
  | @dT a kvs ea =>
    cases (show u = Value.ref a from rx)
    obtain ⟨_, _, xs, _, o, es, ep, h1, h2, _⟩ := (show ObjOk X.prog X.w H s.heap a (.dT kvs) from I.hok a _ ea)
    exact PySem.W.kia_one PySem.W.kitx_dict I.kIn ⟨o, h1, h2.1⟩ e (fun z => nomatch z) h
  | @ins a C dx fs ea cl ha hn htk hm =>
    cases (show u = Value.ref a from rx)
    obtain ⟨mA, O, _⟩ := ins_get I.hok ea
    obtain ⟨od, J, _⟩ := O.look
    exact PySem.W.kia_one (PySem.W.kitx_own (cl.get _) cl.hd ha hn htk hm) I.kIn J e (fun z => nomatch z) h
end
end L2

namespace L2
open PySem PySem.Spec PyProof.Rows

structure Room (k : Nat) (A : Around) : Prop where
  hd : A.handled = none
  dp : A.depth + 3 * k + 5 < recursionLimit
  un : A.units + 16 * k + 200 < cLine
theorem Room.mono {j k : Nat} {A : Around} (r : Room k A) (h : j ≤ k) : Room j A := ⟨r.hd, by have := r.dp; omega, by have := r.un; omega⟩
theorem Room.deeper {k : Nat} {A : Around} (r : Room (k + 1) A) (env : Env) : Room k (A.deeper env) :=
  ⟨r.hd, by have := r.dp; show A.depth + 1 + 3 * k + 5 < _; omega, by have := r.un; show A.units + 3 + 16 * k + 200 < _; omega⟩
theorem Room.depth {k : Nat} {A : Around} (r : Room k A) : A.depth < recursionLimit := by have := r.dp; omega
theorem Room.units {k : Nat} {A : Around} (r : Room k A) : A.units + 64 < cLine := by have := r.un; omega
theorem Room.units0 {k : Nat} {A : Around} (r : Room k A) : A.units < cLine := by have := r.un; omega

def tNil : TA := fun _ H Q => Q [] H
def tCons (ta : TE) (tr : TA) : TA := fun σ H Q => ta σ H fun x H1 => tr σ H1 fun xs H2 => Q (x :: xs) H2
section
variable {X : Cx} {e : Expr} {es : List Expr} {te : TE} {t : TA} {pos : Pos}
theorem pa_nil : PA X [] tNil := fun _ _ _ _ H Q I h => Calls.spliced_nil ⟨[], H, I, .nil, h⟩
theorem pa_cons (ha : PE X e te) (hr : PA X es t) (hs : starEach (e :: es) X.env = (false, eval e X.env) :: starEach es X.env := by rfl) : PA X (e :: es) (tCons te t) := by
  intro pos pins s σ H Q I h
  rw [hs]
  show wpAny _ _ (spliced ((false, eval e X.env) :: backTo pos (starEach es X.env))) _ _ s
  refine Calls.spliced_cons (thn (ha pins s σ H _ I h) fun u s1 ⟨x, H1, I1, r1, q1⟩ => ?_)
  exact thn (hr pos pins s1 σ H1 _ I1 q1) fun us s2 ⟨xs, H2, I2, r2, q2⟩ => ⟨x :: xs, H2, I2, .cons r1 r2, q2⟩

def tTup (t : TA) : TE := fun σ H Q => t σ H fun xs H1 => xs.length ≤ sizeLine ∧ ∀ p, H1 p = none → Q (.ref p) (upd H1 p (.tup xs))
def tLst (t : TA) : TE := fun σ H Q => t σ H fun xs H1 => xs.length ≤ sizeLine ∧ ∀ p, H1 p = none → Q (.ref p) (upd H1 p (.lst xs))
theorem pe_tup {x1} (h : PA X es t) : PE X (.Tuple es x1 pos) (tTup t) := by
  intro pins s σ H Q I hq
  refine wpAny_Tuple_spliced (thn (h pos pins s σ H _ I hq) fun us s1 ⟨xs, H1, I1, r, z, q⟩ => ⟨by rw [← r.length]; exact z, ?_⟩)
  have hf : H1 s1.heap.objs.size = none := I1.hok.fresh (Nat.le_refl _)
  refine ⟨.ref s1.heap.objs.size, upd H1 s1.heap.objs.size (.tup xs), I1.laid (t' := s1.toks) (fun b u e => Heap.get?_push_of_some _ e) (Nat.le_refl _) ?_, rfl, q _ hf⟩
  exact ⟨z, us, r, ⟨_, Heap.get?_push_size _ rfl, rfl, _, rfl⟩⟩
theorem pe_lst (h : PA X es t) : PE X (.List es pos) (tLst t) := by
  intro pins s σ H Q I hq
  refine wpAny_List_spliced (thn (h pos pins s σ H _ I hq) fun us s1 ⟨xs, H1, I1, r, z, q⟩ => ⟨by rw [← r.length]; exact z, ?_⟩)
  have hf : H1 s1.heap.objs.size = none := I1.hok.fresh (Nat.le_refl _)
  refine ⟨.ref s1.heap.objs.size, upd H1 s1.heap.objs.size (.lst xs), I1.laid (t' := s1.toks) (fun b u e => Heap.get?_push_of_some _ e) (Nat.le_refl _) ?_, rfl, q _ hf⟩
  exact ⟨z, us, 0, r, Heap.get?_push_size _ rfl⟩
end

abbrev Sp := List V → Hp → VK → XK → Prop
abbrev CXT := List Env → Hp → Shared → XK → Value → Shared → Prop

structure Env0 (P : Program) (w : World) (K : PySem.W.Frag) (mg : Str → Option Value) (base : Heap) (A : Around) (outer : List Env) (s : Shared) (H : Hp) : Prop where
  frames : A.frames = some outer
  mod : Mod K mg base
  bs : ∀ b o, base.get? b = some o → s.heap.get? b = some o ∧ H b = none
  bsz : base.objs.size ≤ s.heap.objs.size
  funs : s.heap.FunFrames base outer
  frf : ∀ b ∈ frs outer, H b = none
  hok : HOk P w H s.heap
  bare : AllBare s.gens
def CE (outer : List Env) (P : Program) (w : World) (H : Hp) (s : Shared) (Q : VK) (u : Value) (s' : Shared) : Prop :=
  ∃ v H', s'.os = s.os ∧ AllBare s'.gens ∧ Un (frs outer) [] H H' s.heap s'.heap ∧ HOk P w H' s'.heap ∧ RelV v u ∧ Q v H'
def CR (CX : CXT) (outer : List Env) (P : Program) (w : World) (H : Hp) (s : Shared) (Q : VK) (E : XK) (r : Result) (s' : Shared) : Prop :=
  match r with
  | .ok (.ret u) => CE outer P w H s Q u s'
  | .ok _ => False
  | .error e => CX outer H s E e s'
structure FnOk (P : Program) (w : World) (K : PySem.W.Frag) (mg : Str → Option Value) (base : Heap) (CX : CXT) (k : Nat) (f : Addr) (fd : FuncData) (ps : List Str) (sp : Sp) : Prop where
  len : ∀ vs H Q E, sp vs H Q E → vs.length = ps.length
  run : ∀ (A : Around) (outer : List Env) (s : Shared) (H : Hp) (args : Args) (us : List Value) (vs : List V) (Q : VK) (E : XK), Room k A → Env0 P w K mg base A outer s H → BindsTo s fd args (ps.zip us) → Vals vs us → sp vs H Q E →
    codeAny (model P w) A (.call (.ref f) args) (CR CX outer P w H s Q E) s
theorem FnOk.mono {P : Program} {w : World} {K : PySem.W.Frag} {mg : Str → Option Value} {base : Heap} {CX : CXT} {j k : Nat} {f : Addr} {fd : FuncData} {ps : List Str} {sp : Sp} (F : FnOk P w K mg base CX j f fd ps sp) (h : j ≤ k) :
    FnOk P w K mg base CX k f fd ps sp := ⟨F.len, fun A outer s H args us vs Q E hr => F.run A outer s H args us vs Q E (hr.mono h)⟩
section
variable {X : Cx} {pins : List (Addr × Obj)} {σ : St} {H : Hp} {s s' : Shared}
theorem Inv.env0 (I : Inv X pins σ H s) : Env0 X.prog X.w X.K X.mg X.base X.A X.stack s H :=
  ⟨I.ok.frames, I.ok.mod, I.bs, Nat.le_trans I.ok.bsz I.sz, I.stack, I.stkFree, I.hok, I.bare⟩
theorem Inv.after {Q : VK} {u : Value} (I : Inv X pins σ H s) (h : CE X.stack X.prog X.w H s Q u s') : EP X pins σ Q u s' := by
  obtain ⟨v, H', os, bare, un, hok, r, q⟩ := h
  obtain ⟨hh, g, d, t, os'⟩ := s'
  obtain rfl : os' = s.os := os
  exact ⟨v, H', I.call (h' := hh) (g' := g) (d' := d) (t' := t) (ch := []) un hok bare (fun b z => absurd z (by simp)), r, q⟩
end

def tCall (sp : Sp) (dvs : List V) (E : XK) (t : TA) : TE := fun σ H Q => t σ H fun vs H1 => sp (vs ++ dvs) H1 Q E
def tMeth (C : Addr) (m : Str) (sp : Sp) (dvs : List V) (E : XK) (ta : TE) (t : TA) : TE := fun σ H Q => ta σ H fun x H1 => ∃ a dx fs, x = .ref a ∧ H1 a = some (.ins C dx fs) ∧ fs.lookup m = none ∧
  t σ H1 fun vs H2 => sp (x :: (vs ++ dvs)) H2 Q E
def tMake (C : Addr) (sp : Sp) (dvs : List V) (E : XK) (t : TA) : TE := fun σ H Q => t σ H fun vs H1 => ∀ x dx, H1 x = none → H1 dx = none → dx ≠ x →
  sp (.ref x :: (vs ++ dvs)) (upd (upd H1 dx (.own x)) x (.ins C dx [])) (fun v H2 => v = .non ∧ Q (.ref x) H2) E

def Binds (K : PySem.W.Frag) (fd : FuncData) (ps : List Str) (ds : List Value) : Prop :=
  ∀ (s : Shared) (us : List Value), K.In s.heap → (us ++ ds).length = ps.length → BindsTo s fd ⟨us, []⟩ (ps.zip (us ++ ds))
theorem Binds.all {K : PySem.W.Frag} {fd : FuncData} {ps : List Str} (h : ∀ us : List Value, us.length = ps.length → bindArgs fd ⟨us, []⟩ = pure (ps.zip us)) : Binds K fd ps [] := fun s us _ hl => by
  rw [List.append_nil] at hl ⊢
  exact .of_eq (h us hl)

def Passes (CX : CXT) (X : Cx) (E : XK) : Prop := ∀ (pins : List (Addr × Obj)) (σ : St) (H : Hp) (s : Shared) (e : Value) (s' : Shared), Inv X pins σ H s → CX X.stack H s E e s' → X.xe e s'

section
variable {X : Cx} {CX : CXT} {k : Nat} {f C : Addr} {fd : FuncData} {ps : List Str} {sp : Sp} {dvs : List V} {ds : List Value} {E : XK} {x m : Str} {p pos apos : Pos} {e o : Expr} {es : List Expr} {ta : TE} {t : TA}

theorem run_fn {pins : List (Addr × Obj)} {σ : St} {H : Hp} {s : Shared} {Q : VK} {us : List Value} {vs : List V} (F : FnOk X.prog X.w X.K X.mg X.base CX k f fd ps sp) (hr : Room k X.A) (hb : Binds X.K fd ps ds) (hd : Vals dvs ds) (hx : Passes CX X E)
    (I : Inv X pins σ H s) (r : Vals vs us) (h : sp (vs ++ dvs) H Q E) : wpAny (model X.prog X.w) X.A (call (.ref f) us) (EP X pins σ Q) X.xe s := by
  have r2 : Vals (vs ++ dvs) (us ++ ds) := r.append hd
  have hl : (us ++ ds).length = ps.length := by rw [← r2.length]; exact F.len _ _ _ _ h
  refine wpAny_call (codeAny_mono (F.run X.A X.stack s H ⟨us, []⟩ (us ++ ds) (vs ++ dvs) Q E hr I.env0 (hb s us I.kIn hl) r2 h) fun r s' hq => ?_)
  cases r with
  | error e => exact hx pins σ H s e s' I hq
  | ok fl =>
    cases fl with
    | ret u => exact I.after hq
    | next => exact False.elim hq
    | brk => exact False.elim hq
    | cont => exact False.elim hq

theorem pe_call (F : FnOk X.prog X.w X.K X.mg X.base CX k f fd ps sp) (hr : Room k X.A) (hg : Gl X x) (hm : X.mg x = some (.ref f)) (hk : PySem.W.keepIn X.K (.ref f) = true) (hb : Binds X.K fd ps ds) (hd : Vals dvs ds) (hx : Passes CX X E)
    (ha : PA X (e :: es) t) (hdb : (x == ("__debug__" : Str)) = false := by decide) (he : starEach (e :: es) X.env = (false, eval e X.env) :: starEach es X.env := by rfl) (hpl : (backTo pos (starEach es X.env)).any (·.1) = false := by rfl) :
    PE X (.Call (.Name x p) (e :: es) [] pos) (tCall sp dvs E t) := by
  intro pins s σ H Q I h
  refine wpAny_Call_Name_kw (ld_glob I hg hm ?_ hdb)
  refine PySem.W.callWith_K (h₀ := X.base) I.ok.mod.kin hk (thn (ha pos pins s σ H _ I h) fun us s1 ⟨vs, H1, I1, r, q⟩ => ⟨I1.kIn, ?_⟩) he hpl
  exact run_fn F hr hb hd hx I1 r q
structure Mk (K : PySem.W.Frag) (C f : Addr) : Prop where
  makes : PySem.W.makesIn K C = true
  init : PySem.W.findIn K (.ref C) "__init__" = some (some (.ref f))
  fn : PySem.W.isFn K (.ref f) = true
  kp : PySem.W.keepIn K (.ref C) = true

end

def PK (X : Cx) (kws : List Keyword) (t : TA) : Prop :=
  ∀ (pos : Pos) (pins : List (Addr × Obj)) (s : Shared) (σ : St) (H : Hp) (Q : List V → Hp → Prop), Inv X pins σ H s → t σ H Q → wpAny (model X.prog X.w) X.A (evalAll ((backToKw pos (keywordEach kws X.env)).map (·.2))) (AP X pins σ Q) X.xe s
section
variable {X : Cx} {CX : CXT} {k : Nat} {f C : Addr} {fd : FuncData} {ps ks : List Str} {sp : Sp} {E : XK} {x m : Str} {p pos apos kpos : Pos} {e o : Expr} {es : List Expr} {kws : List Keyword} {te ta : TE} {t tk : TA} {nm : Option Str}
theorem pk_nil : PK X [] tNil := fun _ _ _ _ H Q I h => wpAny_evalAll_nil ⟨[], H, I, .nil, h⟩
theorem pk_cons (ha : PE X e te) (hr : PK X kws t) : PK X (⟨nm, e, kpos⟩ :: kws) (tCons te t) := by
  intro pos pins s σ H Q I h
  show wpAny _ _ (evalAll ((do let v ← eval e X.env; standAt pos; pure v) :: (backToKw pos (keywordEach kws X.env)).map (·.2))) _ _ s
  refine wpAny_evalAll_cons (wpAny_bind (thn (ha pins s σ H _ I h) fun u s1 ⟨x, H1, I1, r1, q1⟩ => wpAny_bind (wpAny_standAt (wpAny_pure ?_))))
  exact thn (hr pos pins s1 σ H1 _ I1 q1) fun us s2 ⟨xs, H2, I2, r2, q2⟩ => ⟨x :: xs, H2, I2, .cons r1 r2, q2⟩

structure KBinds (K : PySem.W.Frag) (fd : FuncData) (ps ks : List Str) (g : List Value → List Value → List Value) (gV : List V → List V → List V) : Prop where
  to : ∀ (s : Shared) (us ws : List Value), K.In s.heap → (g us ws).length = ps.length → BindsTo s fd ⟨us, ks.zip ws⟩ (ps.zip (g us ws))
  rel : ∀ {vs : List V} {us : List Value} {zs : List V} {ws : List Value}, Vals vs us → Vals zs ws → Vals (gV vs zs) (g us ws)
def tCallK (sp : Sp) (gV : List V → List V → List V) (E : XK) (t tk : TA) : TE := fun σ H Q => t σ H fun vs H1 => tk σ H1 fun zs H2 => sp (gV vs zs) H2 Q E
variable {g : List Value → List Value → List Value} {gV : List V → List V → List V}
end

structure FnScope (N P : List Str) (sc : Scope) : Prop where
  kind : sc.kind = .function
  co : sc.isCoroutine = false
  gen : sc.isGenerator = false
  nd : N.Nodup
  pre : N.take P.length = P
  par : ∀ x ∈ P, sc.names.lookup x = some .local ∨ sc.names.lookup x = some .cell
  nofree : ∀ y ∈ sc.names, y.2 ≠ .free

theorem bindL_out {kindOf : Str → Option NameKind} {x : Str} : ∀ {binds : List (Str × Value)} {m : Str → Option Value}, (∀ v, (x, v) ∉ binds) → bindL kindOf binds m x = m x
  | [], _, _ => rfl
  | (n, v) :: r, m, h => by
    unfold bindL
    rw [bindL_out fun w hw => h w (List.mem_cons_of_mem _ hw)]
    split
    · have : x ≠ n := by rintro rfl; exact h v List.mem_cons_self
      simp [this]
    · rfl
theorem bindC_out {kindOf : Str → Option NameKind} {x : Str} : ∀ {binds : List (Str × Value)} {m : Str → Option Value}, (∀ v, (x, v) ∉ binds) → bindC kindOf binds m x = m x
  | [], _, _ => rfl
  | (n, v) :: r, m, h => by
    unfold bindC
    rw [bindC_out fun w hw => h w (List.mem_cons_of_mem _ hw)]
    split
    · rfl
    · have : x ≠ n := by rintro rfl; exact h v List.mem_cons_self
      simp [this]
theorem bindL_get {kindOf : Str → Option NameKind} {x : Str} {v : Value} : ∀ {P : List Str} {vs : List Value} {i : Nat} {m : Str → Option Value}, P.Nodup → P[i]? = some x → vs[i]? = some v → kindOf x = some .local →
    bindL kindOf (P.zip vs) m x = some v
  | [], _, _, _, _, h, _, _ => by simp at h
  | _ :: _, [], _, _, _, _, h, _ => by simp at h
  | p :: P, w :: vs, 0, m, nd, h1, h2, hk => by
    simp at h1 h2; subst h1; subst h2
    show bindL kindOf ((p, w) :: P.zip vs) m p = _
    unfold bindL
    rw [bindL_out fun v hv => (List.nodup_cons.mp nd).1 (List.of_mem_zip hv).1, if_pos hk]
    simp
  | p :: P, w :: vs, i + 1, m, nd, h1, h2, hk => by
    show bindL kindOf ((p, w) :: P.zip vs) m x = _
    unfold bindL
    exact bindL_get (i := i) (List.nodup_cons.mp nd).2 (by simpa using h1) (by simpa using h2) hk
theorem bindC_get {kindOf : Str → Option NameKind} {x : Str} {v : Value} : ∀ {P : List Str} {vs : List Value} {i : Nat} {m : Str → Option Value}, P.Nodup → P[i]? = some x → vs[i]? = some v → kindOf x ≠ some .local →
    bindC kindOf (P.zip vs) m x = some v
  | [], _, _, _, _, h, _, _ => by simp at h
  | _ :: _, [], _, _, _, _, h, _ => by simp at h
  | p :: P, w :: vs, 0, m, nd, h1, h2, hk => by
    simp at h1 h2; subst h1; subst h2
    show bindC kindOf ((p, w) :: P.zip vs) m p = _
    unfold bindC
    rw [bindC_out fun v hv => (List.nodup_cons.mp nd).1 (List.of_mem_zip hv).1, if_neg hk]
    simp
  | p :: P, w :: vs, i + 1, m, nd, h1, h2, hk => by
    show bindC kindOf ((p, w) :: P.zip vs) m x = _
    unfold bindC
    exact bindC_get (i := i) (List.nodup_cons.mp nd).2 (by simpa using h1) (by simpa using h2) hk

def start (N : List Str) (vs : List V) : St := vs.map some ++ List.replicate (N.length - vs.length) none

def cxOf (CX : CXT) (P : Program) (w : World) (K : PySem.W.Frag) (mg : Str → Option Value) (base : Heap) (N : List Str) (qual : Str) (scope : Scope) (f : Addr) (cd : Value) (A : Around) (outer : List Env) (s : Shared) (H : Hp) (E : XK) : Cx where
  prog := P
  w := w
  K := K
  mg := mg
  base := base
  A := A.deeper (envOfC qual scope s.heap.objs.size f cd)
  N := N
  s₀ := s
  H₀ := H
  env := envOfC qual scope s.heap.objs.size f cd
  outer := outer
  stack := envOfC qual scope s.heap.objs.size f cd :: outer
  ex := []
  calm := true
  fn := fun _ => true
  pn := []
  xe := fun e s' => wpAny (model P w) (A.deeper (envOfC qual scope s.heap.objs.size f cd)) (leaving (envOfC qual scope s.heap.objs.size f cd) e) (fun _ s'' => CX outer H s E e s'') (fun e' s'' => CX outer H s E e' s'') s'

theorem cell_has {sc : Scope} {n : Nat} {x : Str} (h : sc.names.lookup x = some .cell) : ∃ c, (cellsFrom n sc.names []).lookup x = some c := by
  have q := PySem.W.cellsFrom_some sc.names n [] (.inl h)
  exact Option.isSome_iff_exists.mp q

theorem inv_start {CX : CXT} {P : Program} {w : World} {K : PySem.W.Frag} {mg : Str → Option Value} {base : Heap} {N ps : List Str} {qual : Str} {scope : Scope} {f : Addr} {cd : Value} {A : Around} {outer : List Env} {s s1 : Shared} {H : Hp} {E : XK} {us : List Value} {vs : List V}
    (S : FnScope N ps scope) (hd : A.handled = none) (e0 : Env0 P w K mg base A outer s H) (hl : vs.length = ps.length) (r : Vals vs us)
    (x : InCallC s s.heap.objs.size (bindL (envOfC qual scope s.heap.objs.size f cd).kindOf (ps.zip us) fun _ => none) (cellsFrom (s.heap.objs.size + 1) scope.names []) (bindC (envOfC qual scope s.heap.objs.size f cd).kindOf (ps.zip us) fun _ => none) s1) :
    Inv (cxOf CX P w K mg base N qual scope f cd A outer s H E) [] (start N vs) H s1 := by
  have hpl : ps.length ≤ N.length := by have := congrArg List.length S.pre; rw [List.length_take] at this; omega
  obtain ⟨h1, tk, rfl, hk⟩ := x.done
  have noA : ∀ b : Addr, b ∉ (cxOf CX P w K mg base N qual scope f cd A outer s H E).ex := fun b z => absurd (show b ∈ ([] : List Addr) from z) (by simp)
  refine ⟨⟨e0.mod, S.kind, rfl, rfl, Nat.le_refl _, fun y z c h1 h2 => ?_, fun y hy => ?_, fun y c _ h => ?_, fun _ => hd, Around.frames_deeper e0.frames, .inr ⟨rfl, rfl⟩, fun b z => absurd z (noA b), e0.bs, e0.bsz, fun b _ _ => noA b, fun b z => absurd z (noA b), e0.funs, e0.frf⟩,
    rfl, e0.bare, Un.kept hk, ⟨_, x.toInCall.ns, fun i y v h1 h2 h3 => ?_⟩, fun y c h => ⟨_, x.cell y c h⟩, e0.hok.fresh (Nat.le_refl _), fun y c h => ?_, fun p hp => absurd (show p ∈ ([] : List (Addr × Obj)) from hp) (by simp), e0.hok.kept hk, ?_⟩
  · exact name_of_addr x.apart (PySem.mem_of_lookup h1) (PySem.mem_of_lookup h2)
  · have hy : scope.names.lookup y = some .cell ∨ scope.names.lookup y = some .free := hy
    rcases hy with hy | hy
    · exact cell_has hy
    · exact absurd rfl (S.nofree _ (PySem.mem_of_lookup hy))
  · exact Nat.le_of_lt (x.above y c (PySem.mem_of_lookup h))
  · have hi : i < vs.length := by
      unfold start at h2
      by_cases hi : i < vs.length
      · exact hi
      · rw [List.getElem?_append_right (by simpa using hi)] at h2
        rw [List.getElem?_replicate] at h2
        split at h2 <;> cases h2
    have ha : vs[i]? = some v := by
      unfold start at h2
      rw [List.getElem?_append_left (by simpa using hi), List.getElem?_map] at h2
      cases e : vs[i]? with
      | none => rw [e] at h2; cases h2
      | some a => rw [e] at h2; cases h2; rfl
    obtain ⟨u, hu, rv⟩ := r.get ha
    have hp : ps[i]? = some y := by
      rw [← S.pre, List.getElem?_take_of_lt (by omega)]; exact h1
    have ndP : ps.Nodup := by rw [← S.pre]; exact S.nd.sublist (List.take_sublist _ _)
    refine ⟨u, rv, ?_⟩
    rcases S.par y (List.mem_of_getElem? hp) with k | k
    · exact .inl ⟨k, bindL_get ndP hp hu k⟩
    · obtain ⟨c, e⟩ := cell_has (n := s.heap.objs.size + 1) k
      refine .inr ⟨.inl k, c, e, ?_⟩
      have q := x.cell y c e
      rw [bindC_get ndP hp hu (by show scope.names.lookup y ≠ _; rw [k]; decide)] at q
      exact q
  · exact e0.hok.fresh (Nat.le_of_lt (x.above y c (PySem.mem_of_lookup h)))
  · unfold start
    show _ = N.length
    rw [List.length_append, List.length_map, List.length_replicate]
    omega

theorem fn_of {CX : CXT} {P : Program} {w : World} {K : PySem.W.Frag} {mg : Str → Option Value} {base : Heap} {k : Nat} {f : Addr} {name qual : Str} {params : Arguments} {body : List Stmt} {scope : Scope} {dV kV doc pm cdv ct oc : Value} {an od : Option Addr}
    {osl : Array (Option Value)} {N ps : List Str} {sp : Sp} (lk : K.lookup f = some ⟨oc, od, .func (PySem.W.fnOf name qual params body scope dV kV doc pm an cdv ct), osl⟩) (hcd : PySem.W.codeIn K cdv qual = true) (S : FnScope N ps scope)
    (len : ∀ vs H Q E, sp vs H Q E → vs.length = ps.length)
    (hbody : ∀ (A : Around) (outer : List Env) (s : Shared) (H : Hp) (vs : List V) (Q : VK) (E : XK), Room k (A.deeper (envOfC qual scope s.heap.objs.size f cdv)) → sp vs H Q E →
      ∃ t, PSs (cxOf CX P w K mg base N qual scope f cdv A outer s H E) body t ∧ t { nx := fun _ H' => Q .non H', rt := Q } (start N vs) H) :
    FnOk P w K mg base CX (k + 1) f (PySem.W.fnOf name qual params body scope dV kV doc pm an cdv ct) ps sp := by
  refine ⟨len, fun A outer s H args us vs Q E hr e0 hb r hsp => ?_⟩
  have hl := len _ _ _ _ hsp
  have KX : K.In s.heap := e0.mod.kin.keeps fun b o e => (e0.bs b o e).1
  have lim : s.heap.NoLimit := e0.mod.nolimit.keeps fun b o e => (e0.bs b o e).1
  have hkind : ∀ y ∈ ps.zip us, scope.names.lookup y.1 = some .local ∨ (scope.names.lookup y.1 = some .cell ∧ ((cellsFrom (s.heap.objs.size + 1) scope.names []).lookup y.1).isSome = true) := fun ⟨n, v⟩ hy => by
    rcases S.par n (List.of_mem_zip hy).1 with q | q
    · exact .inl q
    · exact .inr ⟨q, PySem.W.cellsFrom_some _ _ _ (.inl q)⟩
  refine codeAny_call_function hr.depth (KX _ _ lk) rfl S.co S.gen rfl (PySem.W.codeRec_of KX hcd) (hb _ _ _ _ ?_)
  refine wpAny_newFunctionEnv_cells S.kind hkind fun env he s1 x => ?_
  subst he
  refine ⟨lim.keeps x.toInCall.keep, codeAny_func ?_⟩
  obtain ⟨t, ht, hq⟩ := hbody A outer s H vs Q E (hr.deeper _) hsp
  have I : Inv (cxOf CX P w K mg base N qual scope f cdv A outer s H E) [] (start N vs) H s1 := inv_start S hr.hd e0 hl r x
  refine wpAny_mono (ht [] s1 (start N vs) H _ I hq) (fun fl s' hs => ?_) fun e s' hs => hs
  have fin : ∀ {σ' : St} {H' : Hp} {v : V} {u : Value}, Inv (cxOf CX P w K mg base N qual scope f cdv A outer s H E) [] σ' H' s' → RelV v u → Q v H' → CE outer P w H s Q u s' :=
    fun {σ' H' v u} J rv q => ⟨v, H', J.os, J.bare, J.base, J.hok, rv, q⟩
  cases fl with
  | ret u =>
    obtain ⟨v, σ', H', J, rv, q⟩ := hs
    exact fin J rv q
  | next =>
    obtain ⟨σ', H', J, q⟩ := hs
    exact fin (v := V.non) (u := Value.none) J rfl q
  | brk =>
    obtain ⟨_, _, _, q⟩ := hs
    exact False.elim q
  | cont =>
    obtain ⟨_, _, _, q⟩ := hs
    exact False.elim q
end L2

namespace L2
open PySem PySem.Spec PyProof.Rows
section
variable {X : Cx} {x : Str} {p pos : Pos} {e : Expr} {es : List Expr} {t : TA} {id T : String} {r : List V → Hp → VK → Prop}

def tCB (r : List V → Hp → VK → Prop) (t : TA) : TE := fun σ H Q => t σ H fun vs H1 => r vs H1 Q
theorem pe_callB (hc : CallR X (.builtin id) r) (hg : Gl X x) (hm : X.mg x = none) (hv : bootBuiltins x = some (.builtin id)) (ha : PA X (e :: es) t) (hn : x ≠ "__name__" := by decide) (hdb : (x == ("__debug__" : Str)) = false := by decide)
    (he : starEach (e :: es) X.env = (false, eval e X.env) :: starEach es X.env := by rfl) (hpl : (backTo pos (starEach es X.env)).any (·.1) = false := by rfl) : PE X (.Call (.Name x p) (e :: es) [] pos) (tCB r t) := by
  intro pins s σ H Q I h
  refine wpAny_Call_Name_kw (ld_blt I hg hm hv ?_ hn hdb)
  exact PyProof.Rows.callWith_builtin1 (thn (ha pos pins s σ H _ I h) fun us s1 ⟨vs, H1, I1, r1, q1⟩ => hc pins s1 σ H1 vs us Q I1 r1 q1) he hpl
theorem pe_callTy (hc : CallR X (.type T) r) (hg : Gl X x) (hm : X.mg x = none) (hv : bootBuiltins x = some (.type T)) (ha : PA X (e :: es) t) (hn : x ≠ "__name__" := by decide) (hdb : (x == ("__debug__" : Str)) = false := by decide)
    (he : starEach (e :: es) X.env = (false, eval e X.env) :: starEach es X.env := by rfl) (hpl : (backTo pos (starEach es X.env)).any (·.1) = false := by rfl) : PE X (.Call (.Name x p) (e :: es) [] pos) (tCB r t) := by
  intro pins s σ H Q I h
  refine wpAny_Call_Name_kw (ld_blt I hg hm hv ?_ hn hdb)
  exact PyProof.Rows.callWith_type1 (thn (ha pos pins s σ H _ I h) fun us s1 ⟨vs, H1, I1, r1, q1⟩ => hc pins s1 σ H1 vs us Q I1 r1 q1) he hpl
end
end L2

namespace HT
open PySem PyProof.Rows

def lexLt : List Int → List Int → Bool
  | [], [] => false
  | [], _ :: _ => true
  | _ :: _, [] => false
  | x :: xs, y :: ys => if x = y then lexLt xs ys else decide (x < y)
theorem lexLt_cons (x y : Int) (xs ys : List Int) : lexLt (x :: xs) (y :: ys) = if x = y then lexLt xs ys else decide (x < y) := rfl
theorem lexLt_nil_nil : lexLt [] [] = false := rfl
theorem lexLt_nil_cons (y : Int) (ys : List Int) : lexLt [] (y :: ys) = true := rfl
theorem lexLt_cons_nil (x : Int) (xs : List Int) : lexLt (x :: xs) [] = false := rfl

theorem eqAt_int (A : Around) (s : Shared) (a : Int) (t : Tok) (c : Int) (u : Tok) : ∃ e, SeqAt.EqAt A s (.int a t) (.int c u) e ∧ (e = true ↔ a = c) :=
  ⟨(a == c), SeqAt.EqAt.int_int a t c u, by simp⟩
theorem rcLt_int (A : Around) (s : Shared) (a : Int) (t : Tok) (c : Int) (u : Tok) (prog : Program) (w : World) (E : Value → Shared → Prop) (Q : Value → Shared → Prop) (h : Q (.bool (decide (a < c))) s) :
    wpAny (model prog w) A (richCompare .Lt (.int a t) (.int c u)) Q E s :=
  (PyProof.Rows.lt_int h : wpAny (model prog w) A (compareOp .Lt (.int a t) (.int c u)) Q E s)

section
open PySem.SeqAt
open PySem.AutoSeq1 (wpAny_loadPart')
open PySem.MeetsSeq PySem.MeetsSeq2 PySem.MeetsSeq3

theorem tuple_lt_ints (l b : Addr) (items items2 : Array Value) (n n2 : Nat) (dd dd2 : Option Addr) (sl sl2 : Array (Option Value)) (ns ms : List Int) (hi : IntsAre items.toList ns) (hj : IntsAre items2.toList ms) :
    Meets (Builtin.«tuple.__lt__» ⟨[.ref l, .ref b], []⟩)
      (fun _ R s => s.heap.get? l = some { cls := .type "tuple", dict := dd, data := .seq items n, slots := sl } ∧ s.heap.get? b = some { cls := .type "tuple", dict := dd2, data := .seq items2 n2, slots := sl2 } ∧
        R (.ok (.ret (.bool (lexLt ns ms)))) s) :=
  .of_wp fun prog w A R s h => by
    obtain ⟨hp, g, d, tk, os⟩ := s; obtain ⟨hl, hb, h⟩ := h
    have f2 := AutoSeq1.sub_tuple_tuple
    have z1 : items.size = ns.length := by rw [← hi.length]; simp
    have z2 : items2.size = ms.length := by rw [← hj.length]; simp
    wp_walk using wpAny_loadPart' hl, wpAny_loadPart' hb, wpAny_forIn_list _ (fun rest b s' => b.1 = none ∧ s' = ⟨hp, g, d, tk, os⟩ ∧ ∃ (vs ws : List Value) (ns' ms' : List Int), rest = vs.zip ws ∧
      IntsAre vs ns' ∧ IntsAre ws ms' ∧ ns'.length + items2.size = ms'.length + items.size ∧ R (.ok (.ret (.bool (lexLt ns' ms')))) ⟨hp, g, d, tk, os⟩) _
    case turn =>
      rintro ⟨y, x⟩ rest b s' ⟨hb', rfl, vs, ws, ns', ms', hz, hvi, hwi, hlen, hR⟩
      cases hvi with
      | nil => rw [List.zip_nil_left] at hz; cases hz
      | cons a t hvi' =>
        cases hwi with
        | nil => rw [List.zip_nil_right] at hz; cases hz
        | cons c u hwi' =>
          rw [List.zip_cons_cons] at hz
          injection hz with hyx hrest
          injection hyx with hy hx
          subst hy hx
          rw [lexLt_cons] at hR
          simp only [List.length_cons] at hlen
          obtain ⟨e, he, hiff⟩ := eqAt_int A.in1 ⟨hp, g, d, tk, os⟩ a t c u
          refine wpAny_bind (he prog w _ _ ?_)
          cases e with
          | true =>
            rw [if_pos (hiff.mp rfl)] at hR
            wp_walk
            exact ⟨rfl, rfl, _, _, _, _, hrest, hvi', hwi', by omega, hR⟩
          | false =>
            rw [if_neg (fun q => absurd (hiff.mpr q) Bool.false_ne_true)] at hR
            have hri := rcLt_int A.in1 ⟨hp, g, d, tk, os⟩ a t c u prog w
            wp_walk using hri
            exact ⟨_, rfl, by simpa using hR⟩
    case fin =>
      rintro ⟨b1, b2⟩ s' ⟨hb', rfl, vs, ws, ns', ms', hz, hvi, hwi, hlen, hR⟩
      simp only at hb'
      subst hb'
      have hv : lexLt ns' ms' = decide (items.size < items2.size) := by
        cases hvi with
        | nil =>
          cases hwi with
          | nil =>
            simp only [List.length_nil] at hlen
            rw [lexLt_nil_nil]
            exact (decide_eq_false (by omega)).symm
          | cons c u hw =>
            simp only [List.length_nil, List.length_cons] at hlen
            rw [lexLt_nil_cons]
            exact (decide_eq_true (by omega)).symm
        | cons a t hv =>
          cases hwi with
          | nil =>
            simp only [List.length_nil, List.length_cons] at hlen
            rw [lexLt_cons_nil]
            exact (decide_eq_false (by omega)).symm
          | cons c u hw =>
            rw [List.zip_cons_cons] at hz
            cases hz
      rw [hv] at hR
      wp_walk
      exact ⟨_, rfl, by simpa [Builtin.Tuple.tupleCompareSizes] using hR⟩
    case h =>
      exact ⟨rfl, rfl, items.toList, items2.toList, ns, ms, rfl, hi, hj, by omega, h⟩
end

section
variable {prog : Program} {w : World} {A : Around} {E : Value → Shared → Prop} {s : Shared}

theorem lt_tupInts {l b : Addr} {items items2 : Array Value} {ns ms : List Int} {Q : Value → Shared → Prop} (hl : IsTup s.heap l items) (hb : IsTup s.heap b items2) (hi : IntsAre items.toList ns) (hj : IntsAre items2.toList ms)
    (hu : A.units < cLine) (h : Q (.bool (lexLt ns ms)) s) : wpAny (model prog w) A (compareOp .Lt (.ref l) (.ref b)) Q E s := by
  obtain ⟨⟨cls, dd, data, sl⟩, ho, hc, n, hd⟩ := id hl
  obtain ⟨⟨cls2, dd2, data2, sl2⟩, ho2, hc2, n2, hd2⟩ := id hb
  simp only at hc hd hc2 hd2
  subst hc hd hc2 hd2
  exact richCompare_meets_room (op := .Lt) ⟨_, ho, rfl⟩ ⟨_, ho2, rfl⟩ PySem.F.slot_tuple_lt PySem.F.entry_tuple_lt (PySem.F.args_tuple_lt_2 _ _) (tuple_lt_ints l b items items2 n n2 dd dd2 sl sl2 ns ms hi hj)
    ⟨ho, ho2, show Value.bool (lexLt ns ms) ≠ Value.notImplemented ∧ Q (.bool (lexLt ns ms)) s from ⟨(fun x => nomatch x), h⟩⟩ hu

def sIx (n d : Nat) : Option Int → Nat
  | none => d
  | some v => if v < 0 then (v + (n : Int)).toNat else min v.toNat n
theorem sIx_nat (n d k : Nat) : sIx n d (some (k : Int)) = min k n := by
  show (if (k : Int) < 0 then ((k : Int) + (n : Int)).toNat else min (k : Int).toNat n) = min k n
  rw [if_neg (by omega), Int.toNat_natCast]
end
end HT

namespace L2
open PySem PySem.Spec PyProof.Rows

abbrev TO := St → Hp → (Option Int → Hp → Prop) → Prop
def PO (X : Cx) (e : Option Expr) (t : TO) : Prop :=
  ∀ (pins : List (Addr × Obj)) (s : Shared) (σ : St) (H : Hp) (Q : Option Int → Hp → Prop), Inv X pins σ H s → t σ H Q →
    wpAny (model X.prog X.w) X.A (evalPart e X.env) (fun u s' => ∃ o H', Inv X pins σ H' s' ∧ IsPart u o ∧ Q o H') X.xe s
def tNoPart : TO := fun _ H Q => Q none H
def tPart (t : TE) : TO := fun σ H Q => t σ H fun x H1 => ∃ i, x = .int i ∧ Q (some i) H1

theorem intsAre_of {ns : List Int} : ∀ {us : List Value}, Vals (ns.map V.int) us → IntsAre us ns := by
  induction ns with
  | nil => intro us r; rw [List.map_nil] at r; cases r; exact .nil
  | cons n ns ih =>
    intro us r
    rw [List.map_cons] at r
    cases r with
    | cons r1 r2 =>
      obtain ⟨t, e⟩ := r1
      subst e
      exact .cons n t (ih r2)

section
variable {X : Cx} {e : Expr} {te : TE} {lo hi : Option Expr} {tl th : TO} {pos p2 : Pos}

theorem po_none : PO X none tNoPart := by
  intro pins s σ H Q I h
  rw [evalPart_none]
  exact wpAny_pure ⟨none, H, I, .none, h⟩
theorem po_some (h : PE X e te) : PO X (some e) (tPart te) := by
  intro pins s σ H Q I hw
  rw [evalPart_some]
  refine thn (h pins s σ H _ I hw) fun u s1 ⟨x, H1, I1, r1, q1⟩ => ?_
  obtain ⟨i, rfl, q⟩ := q1
  obtain ⟨t, rfl⟩ := r1
  exact ⟨some i, H1, I1, .int i t, q⟩

def SlR (X : Cx) (r : V → Option Int → Option Int → Hp → VK → Prop) : Prop :=
  ∀ (pins : List (Addr × Obj)) (s : Shared) (σ : St) (H : Hp) (x : V) (v vl vu : Value) (lo hi : Option Int) (sl : Addr) (Q : VK), Inv X pins σ H s → RelV x v → s.heap.IsSliceOf sl vl vu .none → IsPart vl lo → IsPart vu hi → r x lo hi H Q →
    ∃ T id, typeLookup (.type T) "__getitem__" = pure (some (.builtin id)) ∧ s.TypeIs v T ∧ wpAny (model X.prog X.w) X.A (getItem v (.ref sl)) (EP X pins σ Q) X.xe s
def tSl (r : V → Option Int → Option Int → Hp → VK → Prop) (te : TE) (tl th : TO) : TE := fun σ H Q => te σ H fun x H1 => tl σ H1 fun l H2 => th σ H2 fun u H3 => r x l u H3 Q
theorem pe_slice {r : V → Option Int → Option Int → Hp → VK → Prop} (hr : SlR X r) (he : PE X e te) (hl : PO X lo tl) (hu : PO X hi th) : PE X (.Subscript e (.Slice lo hi none p2) pos) (tSl r te tl th) := by
  intro pins s σ H Q I h
  refine Subscript_ (thn (he pins s σ H _ I h) fun v s1 ⟨x, H1, I1, r1, q1⟩ => ?_)
  refine wpAny_Slice (thn (hl pins s1 σ H1 _ I1 q1) fun vl s2 ⟨l, H2, I2, pl, q2⟩ => thn (hu pins s2 σ H2 _ I2 q2) fun vu s3 ⟨u, H3, I3, pu, q3⟩ => ?_)
  rw [evalPart_none]
  refine wpAny_pure ?_
  have I4 : Inv X pins σ H3 { s3 with heap := s3.heap.push { cls := .type "slice", data := .fields #[vl, vu, .none] } } := I3.kept (t' := s3.toks) fun b ob q => Heap.get?_push_of_some _ q
  obtain ⟨T, id, hT, ht, hg⟩ := hr pins { s3 with heap := s3.heap.push { cls := .type "slice", data := .fields #[vl, vu, .none] } } σ H3 x v vl vu l u s3.heap.objs.size Q I4 r1 (Heap.IsSliceOf.new ..) pl pu q3
  show wpAny (model X.prog X.w) X.A (subscriptTail e (.Slice lo hi none p2) v (.ref s3.heap.objs.size)) (EP X pins σ Q) X.xe { s3 with heap := s3.heap.push { cls := .type "slice", data := .fields #[vl, vu, .none] } }
  exact tail_any (ops := [.ref s3.heap.objs.size, v]) ht hT hg (by with_unfolding_all rfl)

def cutV (xs : List V) (lo hi : Option Int) : List V := (xs.drop (HT.sIx xs.length 0 lo)).take (HT.sIx xs.length xs.length hi - HT.sIx xs.length 0 lo)
theorem cutV_length (xs : List V) (lo hi : Option Int) : (cutV xs lo hi).length ≤ xs.length := by
  unfold cutV
  rw [List.length_take, List.length_drop]
  omega
def rSlT (K : PySem.W.Frag) : V → Option Int → Option Int → Hp → VK → Prop := fun x lo hi H Q => ∃ a xs, x = .ref a ∧ SqT K H a xs ∧
  ¬ (HT.sIx xs.length 0 lo = 0 ∧ HT.sIx xs.length xs.length hi = xs.length) ∧ ∀ p, H p = none → Q (.ref p) (upd H p (.tup (cutV xs lo hi)))
def rLtT (K : PySem.W.Frag) : R2 := fun x y H Q => ∃ a b ns ms, x = .ref a ∧ y = .ref b ∧ SqT K H a (ns.map V.int) ∧ SqT K H b (ms.map V.int) ∧ Q (.bl (HT.lexLt ns ms)) H
def rCatT (K : PySem.W.Frag) : R2 := fun x y H Q => ∃ a b xs ys, x = .ref a ∧ y = .ref b ∧ SqT K H a xs ∧ SqT K H b ys ∧ xs ≠ [] ∧ xs.length + ys.length ≤ sizeLine ∧
  (ys = [] → Q (.ref a) H) ∧ (ys ≠ [] → ∀ p, H p = none → Q (.ref p) (upd H p (.tup (xs ++ ys))))
end
end L2

namespace L2
open PySem PySem.Spec PyProof.Rows

def ixN (n : Nat) (i : Int) : Option Nat := if 0 ≤ i then (if i < n then some i.toNat else none) else if -(n : Int) ≤ i then some (i + n).toNat else none
def atI {α : Type} (xs : List α) (i : Int) : Option α := (ixN xs.length i).bind fun j => xs[j]?
theorem ixN_seq {n : Nat} {i : Int} {j : Nat} (h : ixN n i = some j) : seqIndex? i n = some j ∧ j < n ∧ -(n : Int) ≤ i ∧ i < n := by
  unfold ixN at h
  by_cases h0 : 0 ≤ i
  · rw [if_pos h0] at h
    by_cases h1 : i < n
    · rw [if_pos h1] at h
      have e : i.toNat = j := Option.some.inj h
      exact ⟨by rw [seqIndex_of h0 h1, e], by omega, by omega, h1⟩
    · rw [if_neg h1] at h; cases h
  · rw [if_neg h0] at h
    by_cases h1 : -(n : Int) ≤ i
    · rw [if_pos h1] at h
      have e : (i + n).toNat = j := Option.some.inj h
      exact ⟨by rw [seqIndex_neg (by omega) h1, e], by omega, h1, by omega⟩
    · rw [if_neg h1] at h; cases h
theorem atI_get {α : Type} {xs : List α} {i : Int} {v : α} (h : atI xs i = some v) : ∃ j, seqIndex? i xs.length = some j ∧ xs[j]? = some v ∧ j < xs.length ∧ -(xs.length : Int) ≤ i ∧ i < xs.length := by
  unfold atI at h
  cases e : ixN xs.length i with
  | none => rw [e] at h; cases h
  | some j =>
    rw [e] at h
    obtain ⟨h1, h2, h3, h4⟩ := ixN_seq e
    exact ⟨j, h1, h, h2, h3, h4⟩
theorem atI_nat {α : Type} {xs : List α} {j : Nat} {v : α} (h : xs[j]? = some v) : atI xs (j : Int) = some v := by
  have hj : j < xs.length := (List.getElem?_eq_some_iff.mp h).1
  have e : ixN xs.length (j : Int) = some j := by
    unfold ixN
    rw [if_pos (by omega), if_pos (by omega)]; simp
  unfold atI; rw [e]; exact h
def PlainIx (b : Expr) : Prop := ∀ o i, subscripted b false o i = operate [o, i] (getItem o i)
def IxR (X : Cx) (r : R2) : Prop :=
  ∀ (value slice : Expr) (pins : List (Addr × Obj)) (s : Shared) (σ : St) (H : Hp) (x y : V) (v u : Value) (Q : VK), Inv X pins σ H s → RelV x v → RelV y u → r x y H Q →
    subscripted slice false v u = operate [v, u] (getItem v u) → wpAny (model X.prog X.w) X.A (subscriptTail value slice v u) (EP X pins σ Q) X.xe s
def MtR (X : Cx) (id : String) (r : V → List V → Hp → VK → Prop) : Prop :=
  ∀ (pins : List (Addr × Obj)) (s : Shared) (σ : St) (H : Hp) (x : V) (xs : List V) (v : Value) (us : List Value) (Q : VK), Inv X pins σ H s → RelV x v → Vals xs us → r x xs H Q →
    wpAny (model X.prog X.w) X.A (call (.builtin id) (v :: us)) (EP X pins σ Q) X.xe s
section
variable {X : Cx} {a b : Expr} {ta tb : TE} {pos : Pos}
theorem pe_ix {r : R2} (hr : IxR X r) (ha : PE X a ta) (hb : PE X b tb) (hs : PlainIx b) : PE X (.Subscript a b pos) (tOp r ta tb) := by
  intro pins s σ H Q I h
  exact Subscript_ (binT ha hb I h fun v u s2 x y H2 I2 rx ry q => hr a b pins s2 σ H2 x y v u Q I2 rx ry q (hs _ _))

def rIxL (K : PySem.W.Frag) : R2 := fun x y H Q => ∃ p xs i v, x = .ref p ∧ y = .int i ∧ SqL K H p xs ∧ atI xs i = some v ∧ Q v H
def rIxT (K : PySem.W.Frag) : R2 := fun x y H Q => ∃ p xs i v, x = .ref p ∧ y = .int i ∧ SqT K H p xs ∧ atI xs i = some v ∧ Q v H
def rIxS : R2 := fun x y H Q => ∃ z i c, x = .str z ∧ y = .int i ∧ z.length ≤ sizeLine ∧ atI z.cps.toList i = some c ∧ Q (.str ⟨#[c]⟩) H
theorem ix_list : IxR X (rIxL X.K) := by
  intro value slice pins s σ H x y v u Q I rx ry h hs
  obtain ⟨p, xs, i, z, rfl, rfl, hq, he, q⟩ := h
  cases rx
  obtain ⟨t, rfl⟩ := ry
  obtain ⟨its, r, pl, hz⟩ := I.list hq
  obtain ⟨j, h1, h2, h3, h4, h5⟩ := atI_get he
  obtain ⟨w, ew, rw'⟩ := r.get h2
  have hl := r.length
  have hn := line63
  have fin : EP X pins σ Q w s := ⟨z, H, I, rw', q⟩
  by_cases h0 : 0 ≤ i
  · have hj : i.toNat = j := by
      rw [seqIndex_of h0 h5] at h1
      exact Option.some.inj h1
    exact item_listR pl.isList h0 (by omega) (by rw [hj]; simpa using ew) fin hs
  · have hj : (i + (its.toArray.size : Int)).toNat = j := by
      rw [seqIndex_neg (by omega) h4] at h1
      rw [List.size_toArray, ← hl]
      exact Option.some.inj h1
    exact subscriptTail_builtinR (x := w) pl.isList.typeIs slot_list_getitem.lookup
      (wpAny_getItem_list_neg (Q := fun r s' => r = w ∧ EP X pins σ Q r s') pl.isList (by omega) (by rw [List.size_toArray] <;> omega) (by omega) (by rw [hj]; simpa using ew) ⟨rfl, fin⟩) hs
theorem ix_tup : IxR X (rIxT X.K) := by
  intro value slice pins s σ H x y v u Q I rx ry h hs
  obtain ⟨p, xs, i, z, rfl, rfl, hq, he, q⟩ := h
  cases rx
  obtain ⟨t, rfl⟩ := ry
  obtain ⟨its, r, pl, hz⟩ := I.tuple hq
  obtain ⟨j, h1, h2, h3, h4, h5⟩ := atI_get he
  obtain ⟨w, ew, rw'⟩ := r.get h2
  have hl := r.length
  have hn := line63
  have fin : EP X pins σ Q w s := ⟨z, H, I, rw', q⟩
  exact subscriptTail_builtinR (x := w) pl.typeIs slot_tuple_getitem.lookup
    (getItem_tuple (j := j) (Q := fun r s' => r = w ∧ EP X pins σ Q r s') pl (by omega) (by omega) (by rw [List.size_toArray, ← hl]; exact h1) (by simpa using ew) ⟨rfl, fin⟩) hs
def rIx (K : PySem.W.Frag) : R2 := fun x y H Q => rIxL K x y H Q ∨ rIxT K x y H Q ∨ rIxS x y H Q
theorem mapSeq_set (its : List Value) (n j : Nat) (u : Value) : Obj.mapSeq (·.setIfInBounds j u) { cls := .type "list", data := .seq its.toArray n } = { cls := .type "list", data := .seq (its.set j u).toArray n } := by
  simp [Obj.mapSeq]
theorem Inv.lst {pins : List (Addr × Obj)} {σ : St} {H : Hp} {s : Shared} {p : Addr} {xs : List V} (I : Inv X pins σ H s) (h : H p = some (.lst xs)) :
    ∃ (its : List Value) (n : Nat), Vals xs its ∧ s.heap.get? p = some { cls := .type "list", data := .seq its.toArray n } ∧ xs.length ≤ sizeLine := by
  obtain ⟨z, its, n, r, e⟩ := I.hok p _ h
  exact ⟨its, n, r, e, z⟩
theorem Inv.lstUpd {pins : List (Addr × Obj)} {σ : St} {H : Hp} {s : Shared} {p : Addr} {xs ys : List V} {its its' : List Value} {n n' : Nat} {f : Obj → Obj} (I : Inv X pins σ H s) (h : H p = some (.lst xs))
    (ho : s.heap.get? p = some { cls := .type "list", data := .seq its.toArray n }) (hf : f { cls := .type "list", data := .seq its.toArray n } = { cls := .type "list", data := .seq its'.toArray n' }) (r : Vals ys its') (hz : ys.length ≤ sizeLine) (t : Nat) :
    Inv X pins σ (upd H p (.lst ys)) { s with heap := s.heap.update p f, toks := t } := by
  have e : (s.heap.update p f).get? p = some { cls := .type "list", data := .seq its'.toArray n' } := by
    rw [Heap.get?_update_self f ho (by rw [hf] <;> rfl), hf]
  refine I.write (x := p) (e := p) (by rw [h]; trivial) (.inl rfl) (fun b u hb q => (Heap.get?_update_other _ _ (Ne.symm hb)).trans q) ⟨_, e⟩ ?_
  exact ⟨hz, its', n', r, e⟩
def rSetL : V → V → V → Hp → (Hp → Prop) → Prop := fun o i v H Q => ∃ p xs k j, o = .ref p ∧ i = .int k ∧ H p = some (.lst xs) ∧ ixN xs.length k = some j ∧ Q (upd H p (.lst (xs.set j v)))
theorem set_list : PSet X rSetL := by
  intro pins s σ H o i v ov iv u Q I ro ri rv h
  obtain ⟨p, xs, k, j, rfl, rfl, hp, hj, q⟩ := h
  cases ro
  obtain ⟨t, rfl⟩ := ri
  obtain ⟨its, n, r, ho, hz⟩ := I.lst hp
  obtain ⟨h1, h2, h3, h4⟩ := ixN_seq hj
  have hl := r.length
  have hn := line63
  have I' : Inv X pins σ (upd H p (.lst (xs.set j v))) { s with heap := s.heap.update p (Obj.mapSeq (·.setIfInBounds j u)) } :=
    I.lstUpd hp ho (mapSeq_set its n j u) (r.set rv j) (by rw [List.length_set]; exact hz) s.toks
  by_cases h0 : 0 ≤ k
  · have hk : k.toNat = j := by
      rw [seqIndex_of h0 h4] at h1
      exact Option.some.inj h1
    exact PySem.W.ki_setAt ho h0 (by omega) (by rw [List.size_toArray, ← hl]; exact h4) (by rw [hk]; exact ⟨_, I', q⟩)
  · have hk : (k + (its.toArray.size : Int)).toNat = j := by
      rw [seqIndex_neg (by omega) h3] at h1
      rw [List.size_toArray, ← hl]
      exact Option.some.inj h1
    exact PySem.W.ki_setBack ho (by omega) (by rw [List.size_toArray, ← hl]; exact h3) (by omega) (by rw [hk]; exact ⟨_, I', q⟩)

theorem slice_bounds (lo hi : Option Int) (n : Nat) : (sliceBounds lo hi none n).1 = ((HT.sIx n 0 lo : Nat) : Int) ∧ (sliceBounds lo hi none n).2.1 = ((HT.sIx n n hi : Nat) : Int) ∧ (sliceBounds lo hi none n).2.2 = 1 := by
  refine ⟨?_, ?_, rfl⟩
  · cases lo with
    | none => simp [sliceBounds, HT.sIx]
    | some i =>
      simp only [sliceBounds, HT.sIx, Option.getD_none, show (1 : Int) > 0 by decide, if_true]
      by_cases h : i < 0
      · simp only [h, if_true] <;> omega
      · simp only [h, if_false] <;> omega
  · cases hi with
    | none => simp [sliceBounds, HT.sIx]
    | some i =>
      simp only [sliceBounds, HT.sIx, Option.getD_none, show (1 : Int) > 0 by decide, if_true]
      by_cases h : i < 0
      · simp only [h, if_true] <;> omega
      · simp only [h, if_false] <;> omega
theorem slicePick_cut (its : List Value) (lo hi : Option Int) : slicePick its.toArray lo hi none = ((its.drop (HT.sIx its.length 0 lo)).take (HT.sIx its.length its.length hi - HT.sIx its.length 0 lo)).toArray := by
  obtain ⟨h1, h2, h3⟩ := slice_bounds lo hi its.toArray.size
  unfold slicePick
  rw [h1, h2, h3]
  simp only [sliceRange_one, pick_run, List.size_toArray] <;> rfl
def rSlL (K : PySem.W.Frag) : V → Option Int → Option Int → Hp → VK → Prop := fun x lo hi H Q => ∃ a xs, x = .ref a ∧ SqL K H a xs ∧ ∀ p, H p = none → Q (.ref p) (upd H p (.lst (cutV xs lo hi)))
theorem sl_list : SlR X (rSlL X.K) := by
  intro pins s σ H x v vl vu lo hi sl Q I rx hs pl pu h
  obtain ⟨a, xs, rfl, hx, q⟩ := h
  cases rx
  obtain ⟨its, r, ht, hz⟩ := I.list hx
  have hlen := r.length
  refine ⟨"list", _, slot_list_getitem.lookup, ht.isList.typeIs, ?_⟩
  refine wpAny_getItem_list_slice ht.isList hs pl pu .none (by simp) ?_ (by rw [List.size_toArray] <;> omega)
  rw [slicePick_cut, ← hlen]
  refine ⟨.ref s.heap.objs.size, _, I.laid (t' := s.toks) (o := .lst (cutV xs lo hi)) (fun b ob q => Heap.get?_push_of_some _ q) (Nat.le_refl _) ?_, rfl, q _ (I.hok.fresh (Nat.le_refl _))⟩
  exact ⟨Nat.le_trans (cutV_length xs lo hi) hz, _, 0, (r.drop (HT.sIx xs.length 0 lo)).take (HT.sIx xs.length xs.length hi - HT.sIx xs.length 0 lo), Heap.get?_push_size _ rfl⟩

def flatV : V → Bool
  | .non => true
  | .bl _ => true
  | .int _ => true
  | .str _ => true
  | _ => false
def eqV : V → V → Bool
  | .non, .non => true
  | .bl a, .bl b => a == b
  | .bl a, .int b => (if a then 1 else 0) == b
  | .int a, .bl b => a == (if b then 1 else 0)
  | .int a, .int b => a == b
  | .str a, .str b => a == b
  | _, _ => false
def eqU (x : V) (u : Value) : Bool := match u with
  | .none => eqV .non x
  | .bool b => eqV (.bl b) x
  | .int i _ => eqV (.int i) x
  | .str z _ => eqV (.str z) x
  | _ => false
def inV (x : V) (xs : List V) : Bool := xs.any fun y => eqV y x
def rIn (K : PySem.W.Frag) (neg : Bool) : R2 := fun x y H Q => ∃ p xs, y = .ref p ∧ (SqL K H p xs ∨ SqT K H p xs) ∧ flatV x = true ∧ xs.all flatV = true ∧ Q (.bl (if neg then !inV x xs else inV x xs)) H
theorem call_len_seq : CallR X (.builtin "len") (fun xs H Q => ∃ p ys, xs = [.ref p] ∧ (SqL X.K H p ys ∨ SqT X.K H p ys) ∧ Q (.int ys.length) H) := by
  intro pins s σ H xs us Q I r h
  obtain ⟨p, ys, rfl, hq, q⟩ := h
  obtain ⟨u, rfl, rx⟩ := vals1 r
  cases rx
  have hn := line63
  rcases hq with hq | hq
  · obtain ⟨its, r', pl, hz⟩ := I.list hq
    have hlen := r'.length
    exact Calls.call_len_list pl.isList (by simp only [List.size_toArray] <;> omega) ⟨.int ys.length, H, I.tok _, ⟨s.toks + 1, by rw [List.size_toArray, hlen]⟩, q⟩
  · obtain ⟨its, r', pl, hz⟩ := I.tuple hq
    have hlen := r'.length
    exact len_tuple pl (by simp only [List.size_toArray] <;> omega) ⟨.int ys.length, H, I.tok _, ⟨s.toks + 1, by rw [List.size_toArray, hlen]⟩, q⟩
theorem call_list_of : CallR X (.type "list") (fun xs H Q => ∃ p ys, xs = [.ref p] ∧ (SqL X.K H p ys ∨ SqT X.K H p ys) ∧ ∀ l, H l = none → Q (.ref l) (upd H l (.lst ys))) := by
  intro pins s σ H xs us Q I r h
  obtain ⟨p, ys, rfl, hq, q⟩ := h
  obtain ⟨u, rfl, rx⟩ := vals1 r
  cases rx
  have fin : ∀ (its : List Value), Vals ys its → ys.length ≤ sizeLine → ∀ (h' : Heap) (c' : Nat), (∀ b o', s.heap.get? b = some o' → h'.get? b = some o') →
      h'.get? s.heap.objs.size = some { cls := .type "list", dict := none, data := .seq its.toArray c', slots := #[] } → EP X pins σ Q (.ref s.heap.objs.size) { s with heap := h' } := fun its r' hz h' c' kp e =>
    ⟨.ref s.heap.objs.size, _, I.laid (t' := s.toks) kp (Nat.le_refl _) (show ObjOk X.prog X.w _ h' _ (.lst ys) from ⟨hz, its, c', r', e⟩), rfl, q _ (I.hok.fresh (Nat.le_refl _))⟩
  rcases hq with hq | hq
  · obtain ⟨its, r', pl, hz⟩ := I.list hq
    have hlen := r'.length
    obtain ⟨o, ho, hc, n, hd⟩ := pl.isList
    exact call_list_seq p (.inl rfl) ho hc hd (fun h' c' kp e => fin its r' hz h' c' kp e) (by simp only [List.size_toArray] <;> omega)
  · obtain ⟨its, r', pl, hz⟩ := I.tuple hq
    have hlen := r'.length
    obtain ⟨o, ho, hc, n, hd⟩ := pl
    exact call_list_seq p (.inr rfl) ho hc hd (fun h' c' kp e => fin its r' hz h' c' kp e) (by simp only [List.size_toArray] <;> omega)
def tyV (K : PySem.W.Frag) (T : String) (x : V) (H : Hp) : Prop := match x with
  | .str _ => T = "str"
  | .int _ => T = "int"
  | .ref p => (T = "list" ∧ ∃ xs, SqL K H p xs) ∨ (T = "tuple" ∧ ∃ o, K.lookup p = some o ∧ o.cls = .type "tuple" ∧ o.dict = none) ∨
      (T = "dict" ∧ ((∃ kvs, H p = some (.dK kvs)) ∨ ∃ kvs, H p = some (.dT kvs))) ∨ (T = "set" ∧ ∃ S n, H p = some (.set S n))
  | _ => False
theorem tyV_is {pins : List (Addr × Obj)} {σ : St} {H : Hp} {s : Shared} {T : String} {x : V} {v : Value} (I : Inv X pins σ H s) (r : RelV x v) (ty : tyV X.K T x H) :
    s.TypeIs v T ∧ ∀ a, v = .ref a → ∃ ob, s.heap.get? a = some ob ∧ ob.dict = none := by
  cases x with
  | str z =>
    obtain ⟨t, rfl⟩ := r
    cases (show T = "str" from ty)
    exact ⟨typeIs_str s z t, fun _ e => nomatch e⟩
  | int i =>
    obtain ⟨t, rfl⟩ := r
    cases (show T = "int" from ty)
    exact ⟨typeIs_int s i t, fun _ e => nomatch e⟩
  | ref p =>
    cases r
    rcases ty with ⟨rfl, xs, hq⟩ | ⟨rfl, o, hk, hc, hd⟩ | ⟨rfl, hk⟩ | ⟨rfl, S, n, hk⟩
    · obtain ⟨its, _, pl, _⟩ := I.list hq
      refine ⟨pl.isList.typeIs, fun a e => ?_⟩
      cases e
      obtain ⟨o, n, e, c, hd, _⟩ := pl
      exact ⟨o, e, hd⟩
    · refine ⟨⟨o, I.kIn p o hk, hc⟩, fun a e => ?_⟩
      cases e
      exact ⟨o, I.kIn _ o hk, hd⟩
    · have z : ∃ o, s.heap.get? p = some o ∧ o.ExactDict := by
        rcases hk with ⟨kvs, hk⟩ | ⟨kvs, hk⟩
        · obtain ⟨_, _, _, _, o, _, _, e, ex, _⟩ := I.hok p _ hk
          exact ⟨o, e, ex⟩
        · obtain ⟨_, _, _, _, o, _, _, e, ex, _⟩ := I.hok p _ hk
          exact ⟨o, e, ex⟩
      obtain ⟨o, e, ex⟩ := z
      refine ⟨⟨o, e, ex.1⟩, fun a e2 => ?_⟩
      cases e2
      exact ⟨o, e, ex.2.1⟩
    · obtain ⟨o, _, _, _, e, ex, _⟩ := I.hok p _ hk
      refine ⟨⟨o, e, ex.1⟩, fun a e2 => ?_⟩
      cases e2
      exact ⟨o, e, ex.2.1⟩
  | _ => exact False.elim ty
def tBM0 (K : PySem.W.Frag) (T : String) (r : V → List V → Hp → VK → Prop) (to : TE) : TE := fun σ H Q => to σ H fun x H1 => tyV K T x H1 ∧ r x [] H1 Q
def tBM (K : PySem.W.Frag) (T : String) (r : V → List V → Hp → VK → Prop) (to : TE) (t : TA) : TE := fun σ H Q => to σ H fun x H1 => tyV K T x H1 ∧ t σ H1 fun xs H2 => r x xs H2 Q
variable {o e : Expr} {es : List Expr} {to : TE} {t : TA} {name : Str} {apos cpos : Pos} {T id : String} {r : V → List V → Hp → VK → Prop}
theorem pe_bm0 (pa : PlainAttrs T) (slot : Slot T name id) (hty : typeOf (.builtin id) = pure (.type "method_descriptor")) (hm : MtR X id r) (ho : PE X o to)
    (hbase : attributeBase o name X.env (eval o X.env) = eval o X.env := by rfl) (hline : (apos.endLine == cpos.line) = true := by rfl) : PE X (.Call (.Attribute o name apos) [] [] cpos) (tBM0 X.K T r to) := by
  intro pins s σ H Q I h
  refine wpAny_Call_method0_late hbase hline (thn (ho pins s σ H _ I h) fun v s1 ⟨x, H1, I1, r1, ty, q1⟩ => ?_)
  obtain ⟨h1, h2⟩ := tyV_is I1 r1 ty
  exact ⟨T, id, pa, slot, hty, h1, h2, Calls.callWith_builtin rfl (PySem.evalArgs_none (hm pins s1 σ H1 x [] v [] Q I1 r1 .nil q1))⟩
theorem pe_bm (pa : PlainAttrs T) (slot : Slot T name id) (hty : typeOf (.builtin id) = pure (.type "method_descriptor")) (hm : MtR X id r) (ho : PE X o to) (ha : PA X (e :: es) t)
    (hbase : attributeBase o name X.env (eval o X.env) = eval o X.env := by rfl)
    (hfew : ((backTo cpos (starEach (e :: es) X.env)).all (fun x => !x.1) && (backToKw cpos (keywordEach [] X.env)).all (fun x => x.1.isSome)
      && decide ((e :: es).length + ([] : List Keyword).length + (if ([] : List Keyword).isEmpty then 0 else 1) < 30)) = true := by rfl)
    (hline : (apos.endLine == cpos.line) = true := by rfl) (hs : starEach (e :: es) X.env = (false, eval e X.env) :: starEach es X.env := by rfl) (hplain : (backTo cpos (starEach es X.env)).any (·.1) = false := by rfl) :
    PE X (.Call (.Attribute o name apos) (e :: es) [] cpos) (tBM X.K T r to t) := by
  intro pins s σ H Q I h
  refine wpAny_Call_method_late hbase hfew hline rfl (thn (ho pins s σ H _ I h) fun v s1 ⟨x, H1, I1, r1, ty, q1⟩ => ?_)
  obtain ⟨h1, h2⟩ := tyV_is I1 r1 ty
  refine ⟨T, id, pa, slot, hty, h1, h2, ?_⟩
  have hA := ha cpos pins s1 σ H1 _ I1 q1
  rw [hs] at hA ⊢
  refine Calls.callWith_builtin (by show (false || (backTo cpos (starEach es X.env)).any (·.1)) = false; rw [hplain] <;> rfl) (Calls.evalArgs_plain ?_)
  exact thn hA fun us s2 ⟨vs, H2, I2, r2, q2⟩ => hm pins s2 σ H2 x vs v us Q I2 r1 r2 q2
end
end L2

namespace L2
open PySem PySem.Spec PyProof.Rows

def MtM (X : Cx) (id : String) (r : V → List V → Hp → VK → Prop) : Prop :=
  ∀ (pins : List (Addr × Obj)) (s : Shared) (σ : St) (H : Hp) (x : V) (xs : List V) (v : Value) (us : List Value) (Q : VK), Inv X pins σ H s → RelV x v → Vals xs us → r x xs H Q →
    wpAny (model X.prog X.w) X.A (call (.builtin id) (v :: us)) (EP X pins σ Q) X.xe s

theorem Vals.one : ∀ {x : V} {us : List Value}, Vals [x] us → ∃ u, us = [u] ∧ RelV x u
  | _, _, .cons r .nil => ⟨_, rfl, r⟩
theorem Vals.two : ∀ {x y : V} {us : List Value}, Vals [x, y] us → ∃ u v, us = [u, v] ∧ RelV x u ∧ RelV y v
  | _, _, _, .cons r (.cons q .nil) => ⟨_, _, rfl, r, q⟩
theorem Vals.zero : ∀ {us : List Value}, Vals [] us → us = []
  | _, .nil => rfl
theorem Vals.dropLast {xs : List V} {us : List Value} (h : Vals xs us) : Vals xs.dropLast us.dropLast := by
  induction h with
  | nil => exact .nil
  | cons r t ih =>
    cases t with
    | nil => exact .nil
    | cons q t' => exact .cons r ih
theorem Vals.reverse {xs : List V} {us : List Value} (h : Vals xs us) : Vals xs.reverse us.reverse := by
  induction h with
  | nil => exact .nil
  | cons r t ih => rw [List.reverse_cons, List.reverse_cons]; exact Vals.append ih (.cons r .nil)
theorem Vals.rep {xs : List V} {us : List Value} (h : Vals xs us) : ∀ k : Nat, Vals (List.replicate k xs).flatten (List.replicate k us).flatten
  | 0 => .nil
  | k + 1 => by
    rw [List.replicate_succ, List.replicate_succ, List.flatten_cons, List.flatten_cons]
    exact Vals.append h (Vals.rep h k)
theorem erase_last {α : Type} (l : List α) : l.eraseIdx (l.length - 1) = l.dropLast := by
  induction l with
  | nil => rfl
  | cons a r ih =>
    cases r with
    | nil => rfl
    | cons b r =>
      have e : (a :: b :: r).length - 1 = ((b :: r).length - 1) + 1 := by
        have h1 : (a :: b :: r).length = r.length + 2 := rfl
        have h2 : (b :: r).length = r.length + 1 := rfl
        omega
      rw [e, List.eraseIdx_cons_succ, ih]
      all_goals rfl
theorem foldl_rep (its : List Value) : ∀ (k : Nat) (acc : List Value),
    List.foldl (fun x1 x2 => x1 ++ x2) acc.toArray (List.replicate k its.toArray) = (acc ++ (List.replicate k its).flatten).toArray
  | 0, acc => by simp
  | k + 1, acc => by
    have e : acc.toArray ++ its.toArray = (acc ++ its).toArray := by simp
    have e2 : (acc ++ its) ++ (List.replicate k its).flatten = acc ++ (List.replicate (k + 1) its).flatten := by
      rw [List.replicate_succ, List.flatten_cons, List.append_assoc]
    rw [← e2, ← foldl_rep its k (acc ++ its), ← e, List.replicate_succ, List.foldl_cons]

section
variable {X : Cx} {pins : List (Addr × Obj)} {σ : St} {H : Hp} {s : Shared} {l b : Addr} {xs ys zs : List V}

theorem Inv.lset {its its' : List Value} {n : Nat} {f : Array Value → Array Value} {t' : Nat} (I : Inv X pins σ H s) (hH : H l = some (.lst xs))
    (e : s.heap.get? l = some { cls := .type "list", data := .seq its.toArray n }) (hf : f its.toArray = its'.toArray) (hv : Vals ys its') (hz : ys.length ≤ sizeLine) :
    Inv X pins σ (upd H l (.lst ys)) { s with heap := s.heap.update l (Obj.mapSeq f), toks := t' } := by
  have q := PySem.IsL.update e f
  rw [hf] at q
  refine I.write (x := l) (e := l) (by rw [hH]; exact trivial) (.inl rfl) (fun b' u hb hu => (Heap.get?_update_other s.heap (Obj.mapSeq f) (Ne.symm hb)).trans hu) ⟨_, q⟩ ?_
  exact ⟨hz, its', _, hv, q⟩
theorem Inv.lnew {its : List Value} {t' : Nat} (I : Inv X pins σ H s) (hv : Vals ys its) (hz : ys.length ≤ sizeLine) :
    Inv X pins σ (upd H s.heap.objs.size (.lst ys)) { s with heap := s.heap.push { cls := .type "list", data := .seq its.toArray }, toks := t' } :=
  I.laid (fun _ _ q => Heap.get?_push_of_some _ q) (Nat.le_refl _) ⟨hz, its, 0, hv, Heap.get?_push_size _ rfl⟩
theorem Inv.fresh (I : Inv X pins σ H s) : H s.heap.objs.size = none := I.hok.fresh (Nat.le_refl _)
theorem Inv.lstM (I : Inv X pins σ H s) (hH : H l = some (.lst xs)) : xs.length ≤ sizeLine ∧ ∃ (its : List Value) (n : Nat), Vals xs its ∧ xs.length = its.length ∧ s.heap.get? l = some { cls := .type "list", data := .seq its.toArray n } := by
  obtain ⟨z, its, n, r, e⟩ := I.hok l _ hH
  exact ⟨z, its, n, r, r.length, e⟩

theorem notLongL {n : Nat} (h : n ≤ sizeLine) : Builtin.List.listTooLong n = false := by
  unfold Builtin.List.listTooLong
  exact decide_eq_false (by omega)
end

section
variable {X : Cx}

def rAppend : V → List V → Hp → VK → Prop := fun x vs H Q => ∃ l xs y, x = .ref l ∧ vs = [y] ∧ H l = some (.lst xs) ∧ xs.length < sizeLine ∧ Q .non (upd H l (.lst (xs ++ [y])))
theorem mt_append : MtM X "list.append" rAppend := by
  intro pins s σ H x vs v us Q I rx rv h
  obtain ⟨l, xs, y, rfl, rfl, hH, hz, q⟩ := h
  cases rx
  obtain ⟨u, rfl, ru⟩ := rv.one
  obtain ⟨z, its, n, r, hl, e⟩ := I.lstM hH
  refine call_meets F.slot_list_append ⟨_, e, rfl⟩ F.entry_list_append (F.args_list_append_2 _ _) (PySem.list_append l its.toArray n u (by rw [List.size_toArray]; omega)) ⟨e, ?_⟩
  refine ⟨.non, _, I.lset (its' := its ++ [u]) hH e (by simp) (r.append (.cons ru .nil)) ?_, rfl, q⟩
  rw [List.length_append, List.length_singleton]
  omega

def rExtend : V → List V → Hp → VK → Prop := fun x vs H Q => ∃ l b xs zs, x = .ref l ∧ vs = [.ref b] ∧ H l = some (.lst xs) ∧ H b = some (.lst zs) ∧ xs.length + zs.length ≤ sizeLine ∧ Q .non (upd H l (.lst (xs ++ zs)))
theorem mt_extend : MtM X "list.extend" rExtend := by
  intro pins s σ H x vs v us Q I rx rv h
  obtain ⟨l, b, xs, zs, rfl, rfl, hH, hB, hz, q⟩ := h
  cases rx
  obtain ⟨u, rfl, ru⟩ := rv.one
  cases ru
  obtain ⟨z, its, n, r, hl, e⟩ := I.lstM hH
  obtain ⟨z2, its2, n2, r2, hl2, e2⟩ := I.lstM hB
  have hsz : its.toArray.size + its2.toArray.size ≤ sizeLine := by rw [List.size_toArray, List.size_toArray]; omega
  have hlong : ¬ (!its.toArray.isEmpty && Builtin.List.listTooLong (its.toArray.size + its2.toArray.size)) = true := by
    rw [notLongL hsz, Bool.and_false]
    exact Bool.false_ne_true
  refine call_meets F.slot_list_extend ⟨_, e, rfl⟩ F.entry_list_extend (F.args_list_extend_2 _ _)
    (AutoSeq1.list_extend_list_list_0 l its.toArray n b its2.toArray n2 hlong (by rw [List.size_toArray]; omega) (by omega)) ⟨e, e2, ?_⟩
  refine ⟨.non, _, I.lset (its' := its ++ its2) hH e (by simp) (r.append r2) ?_, rfl, q⟩
  rw [List.length_append]
  omega

def rPop : V → List V → Hp → VK → Prop := fun x vs H Q => ∃ l xs y, x = .ref l ∧ vs = [] ∧ H l = some (.lst xs) ∧ xs[xs.length - 1]? = some y ∧ Q y (upd H l (.lst xs.dropLast))
theorem mt_pop : MtM X "list.pop" rPop := by
  intro pins s σ H x vs v us Q I rx rv h
  obtain ⟨l, xs, y, rfl, rfl, hH, hy, q⟩ := h
  cases rx
  have hus := rv.zero
  subst hus
  obtain ⟨z, its, n, r, hl, e⟩ := I.lstM hH
  obtain ⟨u, hu, ru⟩ := r.get hy
  have hy' : its.toArray[its.toArray.size - 1]? = some u := by
    show its.toArray[its.length - 1]? = some u
    rw [← Array.getElem?_toList, ← hl]
    exact hu
  refine call_meets F.slot_list_pop ⟨_, e, rfl⟩ F.entry_list_pop (F.args_list_pop_1 _) (MeetsSeq.list_pop_last l its.toArray n u hy' (by rw [List.size_toArray]; omega)) ⟨e, ?_⟩
  refine ⟨y, _, I.lset (its' := its.dropLast) hH e ?_ r.dropLast ?_, ru, q⟩
  · show its.toArray.eraseIdxIfInBounds (its.toArray.size - 1) = its.dropLast.toArray
    rw [List.size_toArray, List.eraseIdxIfInBounds_toArray, erase_last]
  · rw [List.length_dropLast]
    omega

def rPopAt : V → List V → Hp → VK → Prop := fun x vs H Q => ∃ l xs i k y, x = .ref l ∧ vs = [.int i] ∧ H l = some (.lst xs) ∧ -(2 ^ 63) ≤ i ∧ i < 2 ^ 63 ∧ seqIndex? i xs.length = some k ∧ xs[k]? = some y ∧ Q y (upd H l (.lst (xs.eraseIdx k)))
def rReverse : V → List V → Hp → VK → Prop := fun x vs H Q => ∃ l xs, x = .ref l ∧ vs = [] ∧ H l = some (.lst xs) ∧ Q .non (upd H l (.lst xs.reverse))
def rClear : V → List V → Hp → VK → Prop := fun x vs H Q => ∃ l xs, x = .ref l ∧ vs = [] ∧ H l = some (.lst xs) ∧ Q .non (upd H l (.lst []))
def rCat : R2 := fun x y H Q => ∃ l b xs zs, x = .ref l ∧ y = .ref b ∧ H l = some (.lst xs) ∧ H b = some (.lst zs) ∧ xs.length + zs.length ≤ sizeLine ∧ ∀ p, H p = none → Q (.ref p) (upd H p (.lst (xs ++ zs)))
theorem op_cat : OpR X (binaryOp .Add) rCat := by
  intro pins s σ H x y v u Q I rx ry h
  obtain ⟨l, b, xs, zs, rfl, rfl, hH, hB, hz, q⟩ := h
  cases rx
  cases ry
  obtain ⟨z, its, n, r, hl, e⟩ := I.lstM hH
  obtain ⟨z2, its2, n2, r2, hl2, e2⟩ := I.lstM hB
  refine PySem.P.add_list e e2 ?_ (by rw [List.size_toArray, List.size_toArray]; omega)
  have ea : its.toArray ++ its2.toArray = (its ++ its2).toArray := by simp
  rw [ea]
  exact ⟨.ref _, _, I.lnew (t' := s.toks) (r.append r2) (by rw [List.length_append]; omega), rfl, q _ I.fresh⟩
def rRep : R2 := fun x y H Q => ∃ l k xs, x = .ref l ∧ y = .int k ∧ H l = some (.lst xs) ∧ -(2 ^ 63) ≤ k ∧ k < 2 ^ 63 ∧ xs.length * k.toNat ≤ sizeLine ∧
  ∀ p, H p = none → Q (.ref p) (upd H p (.lst (List.replicate k.toNat xs).flatten))
theorem len_rep {α : Type} (xs : List α) (k : Nat) : (List.replicate k xs).flatten.length = k * xs.length := by
  induction k with
  | zero => simp
  | succ k ih => rw [List.replicate_succ, List.flatten_cons, List.length_append, ih, Nat.succ_mul, Nat.add_comm]
theorem op_rep : OpR X (binaryOp .Mult) rRep := by
  intro pins s σ H x y v u Q I rx ry h
  obtain ⟨l, k, xs, rfl, rfl, hH, h1, h2, hz, q⟩ := h
  cases rx
  obtain ⟨t, rfl⟩ := ry
  obtain ⟨z, its, n, r, hl, e⟩ := I.lstM hH
  have hlen : its.toArray.size * k.toNat ≤ sizeLine := by rw [List.size_toArray, ← hl]; exact hz
  have hcap : ¬ its.toArray.size * k.toNat > (2 ^ 63 - 1) / 8 := by
    have : (sizeLine : Nat) ≤ (2 ^ 63 - 1) / 8 := by decide
    omega
  have hfit : ¬ (!Builtin.List.listFitsIndex k) = true := by
    rw [fitsIndex_both h1 h2]
    exact Bool.false_ne_true
  have hlong : ¬ Builtin.List.listTooLong (its.toArray.size * k.toNat) = true := by
    rw [notLongL hlen]
    exact Bool.false_ne_true
  have hnew : List.foldl (fun x1 x2 => x1 ++ x2) #[] (List.replicate (if its.toArray.isEmpty = true then 0 else k.toNat) its.toArray) = (List.replicate k.toNat its).flatten.toArray := by
    have f0 : ∀ m : Nat, List.foldl (fun x1 x2 => x1 ++ x2) #[] (List.replicate m its.toArray) = (List.replicate m its).flatten.toArray := fun m => by
      have := foldl_rep its m []
      rw [List.nil_append] at this
      exact this
    rw [f0]
    cases its with
    | nil => simp
    | cons a r' => rw [if_neg (by simp)]
  refine wpAny_binaryOp_repeat_ref (T := "list") (U := "int") (by decide) ⟨_, e, rfl⟩ (fun s' => typeIs_int s' k t) noFill_list_mul F.fills_int_mul F.slot_int_rmul repeat_list F.slot_int_index.lookup
    (call_meets F.slot_int_rmul (typeIs_int s k t) F.entry_int_rmul (F.args_int_rmul_2 _ _) (int___rmul___int_list k t l its.toArray n)
      ⟨e, rfl, ⟨_, e, rfl⟩, call_meets F.slot_list_mul ⟨_, e, rfl⟩ F.entry_list_mul (F.args_list_mul_2 _ _) (AutoListH.list___mul___list_int_3 l its.toArray n k t hfit hcap hlong) ⟨e, ?_⟩⟩)
  rw [hnew]
  exact ⟨.ref _, _, I.lnew (t' := s.toks) (r.rep k.toNat) (by rw [len_rep, Nat.mul_comm]; exact hz), rfl, q _ I.fresh⟩

end

section
variable {prog : Program} {w : World} {A : Around} {E : Value → Shared → Prop} {s : Shared}
end

section
variable {X : Cx}
end
end L2

namespace Att
open PySem PySem.W PySem.Calls PyProof.Rows

theorem ints_of_wellAll {P : Params} {h : Heap} : ∀ (ns : List Int) (vs : List Value), WellAll P h vs (ns.map WData.int) → IntsAre vs ns := by
  intro ns
  induction ns with
  | nil =>
    intro vs w
    rw [List.map_nil] at w
    cases w
    exact .nil
  | cons n ns ih =>
    intro vs w
    rw [List.map_cons] at w
    cases w with
    | cons a b =>
      cases a
      exact .cons _ _ (ih _ b)

theorem script_of {l : OpenLaw} {n : Nat} (hn : l.most = some n) {P : Params} {h : Heap} {args : List WData} {vals : List Value}
    (hpre : l.row.toRowW.claim.pre args = true) (hwl : WellAll P h vals args) :
    ∃ a vs ns, vals = [Value.ref a] ∧ args = [WData.list (ns.map WData.int)] ∧ h.get? a = some { cls := .type "list", data := .seq vs.toArray } ∧ IntsAre vs ns ∧ ns.length ≤ n := by
  have hsh : WShape.hasAll [] args [.list .int] = true := (pre_splitW hpre).1
  have hc : l.pre.holds [] { args := args } = true := (pre_splitW hpre).2
  obtain ⟨d, r, rfl, h1, h2⟩ := hasAllW_cons hsh
  obtain rfl := hasAllW_nil h2
  obtain ⟨xs, rfl, h3⟩ := hasW_list h1
  obtain ⟨ns, rfl⟩ := items_int h3
  have hlen : ns.length ≤ n := by
    unfold OpenLaw.pre at hc
    have h4 : (WTm.not (.lt (.lit (.int (n : Int))) (.len (.arg 0)))).holds [] { args := [.list (ns.map .int)] } = true := by
      have h4 := (holds_andW hc).1
      rw [hn] at h4
      exact h4
    have h5 := condW_of h4 (w_not (w_lt w_lit (w_len_list (w_arg rfl))))
    rw [List.length_map] at h5
    refine Nat.le_of_not_lt fun q => ?_
    have q' : (n : Int) < ((ns.length : Nat) : Int) := by omega
    first
      | (rw [decide_eq_true q'] at h5; exact absurd h5 (by decide))
      | (simp at h5; omega)
  cases hwl with
  | cons w1 w2 =>
    cases w2
    cases w1 with
    | list ho hall => exact ⟨_, _, ns, rfl, rfl, ho, ints_of_wellAll ns _ hall, hlen⟩

theorem post_true (l : OpenLaw) (args : List WData) : l.row.toRowW.claim.post args (.bool true) args = true :=
  postW_of (r := l.row.toRowW) (X := (true == true))
    (show WShape.has [] (.bool true) .bool = true by first | rfl | decide | simp [WShape.has, WShape.arms, WShape.armsAll])
    (show (WTm.eq .res (.lit (.bool true))).value [] { args := args, res := some (.bool true), after := args } = some (.bool (true == true)) from w_eq_bool (w_res rfl) w_lit) rfl

theorem attach_call {l : OpenLaw} {n : Nat} {q : Program} {loose : List Str} {XP : (Str → Option Value) → Heap → Prop} {YP : World → Heap → Prop} {d : DefRec}
    (hn : l.most = some n) (hdf : d.params.defaults = [])
    (call : ∀ (w : World) (s₀ s₁ : Shared) (mg mb : Str → Option Value) (fa : Addr) (o : Obj) (pm cd doc : Value) (a : Addr) (vs : List Value) (ns : List Int),
      Ground q loose [] XP w s₀ mg mb s₁.heap → YP w s₁.heap →
      s₁.heap.get? fa = some o → o.data = .func (docDef d.name d.params d.body d.scope pm cd doc) → s₁.heap.CodeRec cd d.name → mg d.name = some (.ref fa) →
      s₁.heap.get? a = some { cls := .type "list", data := .seq vs.toArray } → IntsAre vs ns → ns.length ≤ n → s₁.gens = #[] →
      codeAny (model l.prog w) callerA (.call (.ref fa) ⟨[.ref a], []⟩) (fun r s' => r = .ok (.ret (.bool true)) ∧ OldK s₁.heap s'.heap ∧ s'.os = s₁.os ∧ AllBare s'.gens) s₁) :
    WalkO q loose XP YP l.row.toRowW d [] (fun f vs => PySem.call f vs) := by
  intro w s₀ s₁ mg mb G Y fa o pm cd doc dV kV ho hd hcd hD hmg hg args vals as hpre hlay hrd hwl hlo
  obtain rfl : dV = .none := Dflts.none hD hdf
  obtain rfl : kV = .none := Dflts.noKw hD
  obtain ⟨a, vs, ns, rfl, rfl, hobj, hints, hlen⟩ := script_of hn hpre hwl
  refine enter_call (codeAny_mono (call w s₀ s₁ mg mb fa o pm cd doc a vs ns G Y ho (fd_plain hd) hcd hmg hobj hints hlen hg) fun r s' hq => ?_)
  obtain ⟨rfl, h2, h3, h4⟩ := hq
  exact ⟨.inl ⟨.bool true, .bool true, [], rfl, fun _ => rfl, .bool true, post_true l _, fun _ => ⟨List.Pairwise.nil, fun _ hm => (nomatch hm)⟩⟩, h2, h3, h4⟩

section
variable {prog : Program} {w : World} {A : Around} {E : Value → Shared → Prop} {s : Shared} {K : Frag}

def noObjs (h : Heap) : Heap := { h with objs := #[] }
def ledger (h : Heap) (L d : Addr) : List (Addr × Obj) := (List.range h.objs.size).filterMap fun a => if a = L ∨ a = d then none else (h.get? a).map fun o => (a, o)
end
end Att

namespace L2
open PySem PySem.Spec PyProof.Rows

theorem vals_ints : ∀ {vs : List Value} {ns : List Int}, IntsAre vs ns → Vals (ns.map V.int) vs
  | _, _, .nil => .nil
  | _, _, .cons n t h => .cons ⟨t, rfl⟩ (vals_ints h)

def Only (H : Hp) : Prop := ∀ b, H b = none ∨ ∃ o xs, H b = some (.frz o (.lst xs))

theorem law_call {P : Program} {w : World} {K : PySem.W.Frag} {mg mb : Str → Option Value} {CX : CXT} {k : Nat} {fa a : Addr} {fd : FuncData} {x : Str} {sp : Sp} {s₁ : Shared} {vs : List Value} {ns : List Int}
    (KX : K.In s₁.heap) (hns : s₁.heap.Ns mainGlobals mg) (hb : s₁.heap.Ns builtinsNs mb) (hbb : ∀ x : Str, x ≠ "__name__" → mb x = bootBuiltins x) (hlim : s₁.heap.NoLimit) (hg : s₁.gens = #[])
    (ha : s₁.heap.get? a = some { cls := .type "list", data := .seq vs.toArray }) (hi : IntsAre vs ns) (hl : ns.length ≤ sizeLine) (hr : Room k callerA)
    (F : ∀ base : Heap, K.In base → base.Ns mainGlobals mg → FnOk P w K mg base CX k fa fd [x] sp) (hbind : ∀ (s : Shared) (u : Value), BindsTo s fd ⟨[u], []⟩ [(x, u)])
    (hsp : ∀ H : Hp, Only H → SqL K H a (ns.map V.int) → sp [.ref a] H (fun v _ => v = .bl true) fun _ _ _ => False)
    (hCX : ∀ H e s', CX [] H s₁ (fun _ _ _ => False) e s' → False) :
    codeAny (model P w) callerA (.call (.ref fa) ⟨[.ref a], []⟩) (fun r s' => r = .ok (.ret (.bool true)) ∧ OldK s₁.heap s'.heap ∧ s'.os = s₁.os ∧ AllBare s'.gens) s₁ := by
  have rv := vals_ints hi
  have lenV := hi.length
  -- from an abstract heap in which nothing but the script may be tracked
  have core : ∀ H : Hp, Only H → SqL K H a (ns.map V.int) → HOk P w H s₁.heap → (∀ b, H b ≠ none → b = a) → (H a ≠ none → K.lookup a = none) →
      codeAny (model P w) callerA (.call (.ref fa) ⟨[.ref a], []⟩) (fun r s' => r = .ok (.ret (.bool true)) ∧ OldK s₁.heap s'.heap ∧ s'.os = s₁.os ∧ AllBare s'.gens) s₁ := by
    intro H hO hS hok hA hK
    have base_of : ∀ {b : Addr} {o : Obj}, s₁.heap.get? b = some o → H b = none → (hidT s₁.heap H).get? b = some o := fun e n => hidT_get e n
    have noA : ∀ {b : Addr} {o : Obj} {es : Array DictEntry} {ep : Nat}, s₁.heap.get? b = some o → o.data = .dict es ep → H b = none := fun {b o es ep} e d => by
      cases q : H b with
      | none => rfl
      | some u =>
        have e' : b = a := hA b (by rw [q]; simp)
        subst e'
        rw [ha] at e; cases e
        have d' : Data.seq vs.toArray _ = Data.dict es ep := d
        cases d'
    have nsK : ∀ {b : Addr} {m : Str → Option Value}, s₁.heap.Ns b m → (hidT s₁.heap H).Ns b m := fun {b m} ⟨o, es, ep, e, d, r⟩ => ⟨o, es, ep, base_of e (noA e d), d, r⟩
    have hKb : K.In (hidT s₁.heap H) := fun b o e => base_of (KX b o e) (by
      cases q : H b with
      | none => rfl
      | some u =>
        have e' : b = a := hA b (by rw [q]; simp)
        subst e'
        rw [hK (by rw [q]; simp)] at e; cases e)
    have hM : Mod K mg (hidT s₁.heap H) := ⟨hKb, nsK hns, ⟨mb, nsK hb, hbb⟩, let ⟨mc, h1, h2⟩ := hlim; ⟨mc, nsK h1, h2⟩⟩
    have e0 : Env0 P w K mg (hidT s₁.heap H) callerA [] s₁ H := ⟨rfl, hM, fun b o e => of_hidT e, Nat.le_of_eq (hidT_size _ _), trivial, fun b hb => absurd (show b ∈ ([] : List Addr) from hb) (by simp), hok, .of_eq hg⟩
    refine codeAny_mono ((F _ hKb (nsK hns)).run callerA [] s₁ H ⟨[.ref a], []⟩ [.ref a] [.ref a] _ _ hr e0 (hbind s₁ (.ref a)) (.cons rfl .nil) (hsp H hO hS)) fun r s' h => ?_
    cases r with
    | error e => exact (hCX H e s' h).elim
    | ok fl =>
      cases fl with
      | next => exact False.elim h
      | brk => exact False.elim h
      | cont => exact False.elim h
      | ret u =>
        obtain ⟨v, H', os, bare, un, hok', r', q⟩ := h
        have q' : v = .bl true := q
        subst q'
        obtain rfl : u = Value.bool true := r'
        refine ⟨rfl, OldK.of_keep fun b o e => ?_, os, bare⟩
        cases q : H b with
        | none => exact un.keep b o e q (by intro z; exact absurd (show b ∈ ([] : List Addr) from z) (by simp)) (by simp)
        | some u =>
          rcases hO b with z | ⟨ob, xs, z⟩
          · rw [q] at z; cases z
          · have z2 := un.frzs b ob _ z
            obtain ⟨e1, _⟩ := hok b _ z
            obtain ⟨e2, _⟩ := hok' b _ z2
            rw [e] at e1; cases e1
            exact e2
  cases hk : K.lookup a with
  | some o =>
    -- the script is one of the module's own objects
    have e := KX a o hk
    rw [ha] at e
    cases e
    refine core (fun _ => none) (fun _ => .inl rfl) (.inr ⟨_, vs.toArray, _, hk, rfl, rfl, rfl, by rw [List.size_toArray, lenV]; exact hl, by simpa using rv⟩) (fun b u z => by have z' : (none : Option HO) = some u := z; cases z') (fun b z => absurd rfl z) fun z => absurd rfl z
  | none =>
    refine core (fun b => if b = a then some (.frz { cls := .type "list", data := .seq vs.toArray } (.lst (ns.map V.int))) else none) (fun b => ?_) (.inl (.inr ⟨{ cls := .type "list", data := .seq vs.toArray }, if_pos rfl⟩)) (fun b u z => ?_) (fun b z => ?_) fun _ => hk
    · by_cases hb : b = a
      · exact .inr ⟨_, _, if_pos hb⟩
      · exact .inl (if_neg hb)
    · by_cases hb : b = a
      · have z' := (if_pos hb).symm.trans z
        cases z'
        subst hb
        exact ⟨ha, by rw [List.length_map]; exact hl, vs, _, rv, ha⟩
      · have z' := (if_neg hb).symm.trans z
        cases z'
    · by_cases hb : b = a
      · exact hb
      · exact absurd (if_neg hb) z
end L2

namespace L2
open PySem PySem.Spec PyProof.Rows

abbrev KOf {K : PySem.W.Frag} {h : Heap} (_ : K.In h) : PySem.W.Frag := K

theorem walk_of {l : PySem.W.OpenLaw} {n k : Nat} {q : Program} {loose : List Str} {XP : (Str → Option Value) → Heap → Prop} {YP : World → Heap → Prop} {d : DefRec} {K : Params → PySem.W.Frag} {CX : World → CXT} {sp : World → Sp} {x : Str}
    (hn : l.most = some n) (hn2 : n ≤ sizeLine) (hdf : d.params.defaults = []) (hr : Room k callerA)
    (hY : ∀ (w : World) (h : Heap), YP w h → (K w.params).In h)
    (F : ∀ (w : World) (mg : Str → Option Value) (fa : Addr) (h : Heap), (K w.params).In h → h.Ns mainGlobals mg → mg d.name = some (.ref fa) →
      ∃ fd : FuncData, (∀ (s : Shared) (u : Value), BindsTo s fd ⟨[u], []⟩ [(x, u)]) ∧
        ∀ base : Heap, (K w.params).In base → base.Ns mainGlobals mg → FnOk l.prog w (K w.params) mg base (CX w) k fa fd [x] (sp w))
    (hsp : ∀ (w : World) (H : Hp) (a : Addr) (ns : List Int), ns.length ≤ n → Only H → SqL (K w.params) H a (ns.map V.int) → sp w [.ref a] H (fun v _ => v = .bl true) fun _ _ _ => False)
    (hCX : ∀ (w : World) (H : Hp) (s : Shared) (e : Value) (s' : Shared), CX w [] H s (fun _ _ _ => False) e s' → False) :
    PySem.W.WalkO q loose XP YP l.row.toRowW d [] (fun f vs => PySem.call f vs) := by
  refine Att.attach_call hn hdf fun w s₀ s₁ mg mb fa o pm cd doc a vs ns G Y ho hd hcd hmg hobj hints hlen hg => ?_
  have KX := hY w _ Y
  obtain ⟨fd, hb, hF⟩ := F w mg fa _ KX G.T.g hmg
  exact law_call KX G.T.g G.T.b G.T.builtins G.T.nolimit hg hobj hints (Nat.le_trans hlen hn2) hr hF hb (fun H hO hS => hsp w H a ns hlen hO hS) fun H e s' => hCX w H s₁ e s'
theorem walk_ofK {l : PySem.W.OpenLaw} {n k : Nat} {q : Program} {loose : List Str} {XP : (Str → Option Value) → Heap → Prop} {YP : World → Heap → Prop} {d : DefRec} {K : Params → PySem.W.Frag} {CX : CXT} {sp : PySem.W.Frag → Sp} {x : Str}
    (hn : l.most = some n) (hn2 : n ≤ sizeLine) (hdf : d.params.defaults = []) (hr : Room k callerA)
    (hY : ∀ (w : World) (h : Heap), YP w h → (K w.params).In h)
    (F : ∀ (w : World) (mg : Str → Option Value) (fa : Addr) (h : Heap), (K w.params).In h → h.Ns mainGlobals mg → mg d.name = some (.ref fa) →
      ∃ fd : FuncData, (∀ (s : Shared) (u : Value), BindsTo s fd ⟨[u], []⟩ [(x, u)]) ∧
        ∀ base : Heap, (K w.params).In base → base.Ns mainGlobals mg → FnOk l.prog w (K w.params) mg base CX k fa fd [x] (sp (K w.params)))
    (hsp : ∀ (K : PySem.W.Frag) (H : Hp) (a : Addr) (ns : List Int), ns.length ≤ n → Only H → SqL K H a (ns.map V.int) → sp K [.ref a] H (fun v _ => v = .bl true) fun _ _ _ => False)
    (hCX : ∀ (H : Hp) (s : Shared) (e : Value) (s' : Shared), CX [] H s (fun _ _ _ => False) e s' → False) :
    PySem.W.WalkO q loose XP YP l.row.toRowW d [] (fun f vs => PySem.call f vs) :=
  walk_of (K := K) (CX := fun _ => CX) (sp := fun w => sp (K w.params)) hn hn2 hdf hr hY F (fun w H a ns h1 h2 h3 => hsp (K w.params) H a ns h1 h2 h3) fun _ H s e s' => hCX H s e s'
end L2


namespace L2
open PySem PySem.Spec PyProof.Rows

def inClass (s : Stmt) (j : Nat) : Stmt := match s with
  | .ClassDef _ _ _ body _ _ _ _ _ _ _ => body.getD j (.Pass ⟨0, 0, 0, 0⟩)
  | _ => .Pass ⟨0, 0, 0, 0⟩
def defArgs (s : Stmt) : Arguments := match s with
  | .FunctionDef _ a _ _ _ _ _ _ _ _ => a
  | _ => { posonlyargs := [], args := [], vararg := none, kwonlyargs := [], kw_defaults := [], kwarg := none, defaults := [] }
def defBody (s : Stmt) : List Stmt := match s with
  | .FunctionDef _ _ b _ _ _ _ _ _ _ => b
  | _ => []
def defScope (s : Stmt) : Scope := match s with
  | .FunctionDef _ _ _ _ _ _ sc _ _ _ => sc
  | _ => { kind := .function, names := [], isGenerator := false, isCoroutine := false }

abbrev CX0 : CXT := fun _ _ _ _ _ _ => False
abbrev E0 : XK := fun _ _ _ => False
theorem pass0 {X : Cx} : Passes CX0 X E0 := fun _ _ _ _ _ _ _ h => h.elim

structure Fun (K : PySem.W.Frag) (x qual : Str) (st : Stmt) (f : Addr) (fd : FuncData) : Prop where
  ex : ∃ (oc : Value) (od : Option Addr) (kV doc pm : Value) (an : Option Addr) (cdv ct : Value) (osl : Array (Option Value)),
    fd = PySem.W.fnOf x qual (defArgs st) (defBody st) (defScope st) .none kV doc pm an cdv ct ∧ K.lookup f = some ⟨oc, od, .func fd, osl⟩ ∧ PySem.W.codeIn K cdv qual = true
  kp : PySem.W.keepIn K (.ref f) = true
section
variable {P : Program} {w : World} {K : PySem.W.Frag} {mg : Str → Option Value} {base : Heap}
theorem Fun.ok {x qual : Str} {st : Stmt} {f : Addr} {fd : FuncData} {N ps : List Str} {k : Nat} {sp : Sp} (F : Fun K x qual st f fd) (S : FnScope N ps (defScope st)) (len : ∀ vs H Q E, sp vs H Q E → vs.length = ps.length)
    (hbody : ∀ (cdv : Value) (A : Around) (outer : List Env) (s : Shared) (H : Hp) (vs : List V) (Q : VK) (E : XK), Room k (A.deeper (envOfC qual (defScope st) s.heap.objs.size f cdv)) → sp vs H Q E →
      ∃ t, PSs (cxOf CX0 P w K mg base N qual (defScope st) f cdv A outer s H E).nox (defBody st) t ∧ t { nx := fun _ H' => Q .non H', rt := Q } (start N vs) H) : FnOk P w K mg base CX0 (k + 1) f fd ps sp := by
  obtain ⟨oc, od, kV, doc, pm, an, cdv, ct, osl, rfl, lk, hcd⟩ := F.ex
  refine fn_of lk hcd S len fun A outer s H vs Q E hr hsp => ?_
  obtain ⟨t, h, q⟩ := hbody cdv A outer s H vs Q E hr hsp
  exact ⟨t, h.nox, q⟩
theorem Fun.binds {x qual : Str} {st : Stmt} {f : Addr} {fd : FuncData} {ps : List Str} (F : Fun K x qual st f fd)
    (h : ∀ (kV doc pm : Value) (an : Option Addr) (cdv ct : Value) (us : List Value), us.length = ps.length → bindArgs (PySem.W.fnOf x qual (defArgs st) (defBody st) (defScope st) .none kV doc pm an cdv ct) ⟨us, []⟩ = pure (ps.zip us)) : Binds K fd ps [] := by
  obtain ⟨oc, od, kV, doc, pm, an, cdv, ct, osl, rfl, lk, hcd⟩ := F.ex
  exact .all (h kV doc pm an cdv ct)
theorem fun_mk {x qual : Str} {st : Stmt} {f : Addr} {oc : Value} {od an : Option Addr} {osl : Array (Option Value)} {kV doc pm cdv ct : Value} (l : K.lookup f = some ⟨oc, od, .func (PySem.W.fnOf x qual (defArgs st) (defBody st) (defScope st) .none kV doc pm an cdv ct), osl⟩)
    (c : PySem.W.codeIn K cdv qual = true) (k : PySem.W.keepIn K (.ref f) = true) : Fun K x qual st f (PySem.W.fnOf x qual (defArgs st) (defBody st) (defScope st) .none kV doc pm an cdv ct) := ⟨⟨oc, od, kV, doc, pm, an, cdv, ct, osl, rfl, l, c⟩, k⟩
end
theorem hu_of {A : Around} {k : Nat} (hr : Room k A) : A.units + 1 < cLine := Nat.lt_of_le_of_lt (Nat.add_le_add_left (by decide : 1 ≤ 64) _) hr.units
theorem small1000 {n : Nat} (h : n ≤ 1000) : n < sizeLine := Nat.lt_of_le_of_lt h (by decide)

section
variable {X : Cx}
theorem pv (i : Nat) {x : Str} {pos : Pos} (hN : X.N[i]? = some x := by rfl) (hv : Vis X.env.scope x := by first | exact Or.inl rfl | exact Or.inr (Or.inl rfl) | exact Or.inr (Or.inr rfl)) (hd : (x == ("__debug__" : Str)) = false := by decide)
    (hcd : (x == ("__classdict__" : Str)) = false := by decide) : PE X (.Name x pos) (tVar i) := pe_var hN hv hd hcd
end

theorem iteF {A B : Prop} (h : B) : if false = true then A else B := by
  rw [if_neg Bool.false_ne_true]
  exact h
theorem iteT {A B : Prop} (h : A) : if true = true then A else B := by
  rw [if_pos rfl]
  exact h
theorem ite2 {c A B : Prop} [Decidable c] (h1 : c → A) (h2 : ¬ c → B) : if c then A else B := by
  by_cases h : c
  · rw [if_pos h]
    exact h1 h
  · rw [if_neg h]
    exact h2 h
theorem iteNS {c A B : Prop} [Decidable c] (hc : c) (h : B) : if (!decide c) = true then A else B := by
  rw [decide_eq_true hc]
  exact iteF h

def Same (H H' : Hp) : Prop := ∀ b o, H b = some o → H' b = some o
theorem Same.refl (H : Hp) : Same H H := fun _ _ h => h
theorem Same.trans {H H1 H2 : Hp} (a : Same H H1) (b : Same H1 H2) : Same H H2 := fun c o h => b c o (a c o h)
end L2

set_option Elab.async false
set_option linter.all false
set_option maxRecDepth 100000
set_option maxHeartbeats 4000000
namespace L2
open PySem PySem.Spec PyProof.Rows
section
variable {X : Cx}
def CDivB (_ j : Int) : Prop := 0 < j ∧ j < 2 ^ 250
theorem log2_big {j : Int} (h1 : 0 < j) (h2 : j < 2 ^ 250) : j.natAbs.log2 < 9000 := by
  have h0 : j.natAbs ≠ 0 := by omega
  have h3 : j.natAbs < 2 ^ 250 := by omega
  exact Nat.lt_trans ((Nat.log2_lt h0).mpr h3) (by decide)
theorem op_fdivB : OpR X (binaryOp .FloorDiv) (rI CDivB fun i j => .int (i / j)) := opI fun i j _ _ _ _ _ hc q => by
  have h1 : (0 : Int) < j := hc.1
  exact floordiv_int (by omega) (by rw [Int.fdiv_eq_ediv_of_nonneg i (by omega)]; exact q) (.inl (PyProof.noPylong_of_log2 (log2_big hc.1 hc.2)))
def CMulB (i j : Int) : Prop := i.natAbs < 2 ^ 250 ∧ j.natAbs < 2 ^ 250
theorem CMulB.ok {i j : Int} (h : CMulB i j) : IntMulOk i j := by
  have a : Builtin.Int.intBits i ≤ 250 := intBits_le h.1
  have b : Builtin.Int.intBits j ≤ 250 := intBits_le h.2
  unfold IntMulOk Builtin.Int.intTooBig
  intro z
  rw [Bool.and_eq_true] at z
  have c := of_decide_eq_true z.2
  rw [bitsLine_eq] at c
  omega
theorem op_mulB : OpR X (binaryOp .Mult) (rI CMulB fun i j => .int (i * j)) := opI fun _ _ _ _ _ _ _ hc q => mul_int q hc.ok
theorem call_isinst : CallR X (.builtin "isinstance") (fun xs H Q => ∃ x n t b, xs = [x, .ty n] ∧ TyOf X.K H x t ∧ PySem.W.kitOne X.K t (.type n) = some b ∧ Q (.bl b) H) := by
  intro pins s σ H xs us Q I r h
  obtain ⟨x, n, t, b, rfl, ty, e, q⟩ := h
  obtain ⟨u, w', rfl, r1, r2⟩ := vals2 r
  cases (show w' = Value.type n from r2)
  exact isinst_ok I r1 ty e (fun tk => ⟨.bl b, H, I.tok _, rfl, q⟩)
end
section
variable {K : PySem.W.Frag}
theorem kit_self (T : String) : PySem.W.kitOne K (.type T) (.type T) = some true := by
  unfold PySem.W.kitOne
  rw [if_pos (beq_self_eq_true _)]
theorem kit_of {T S : String} {b : Bool} (h1 : (Value.type T == Value.type S) = false) (h2 : PySem.W.kitMeta S = true) (h3 : (fastBuiltinMro T).map (·.contains (Value.type S)) = some b) : PySem.W.kitOne K (.type T) (.type S) = some b := by
  unfold PySem.W.kitOne
  rw [if_neg (by rw [h1]; exact Bool.false_ne_true)]
  show (if PySem.W.kitMeta S = true then PySem.W.subIn K (.type T) (.type S) else none) = some b
  rw [if_pos h2]
  exact h3
theorem kit_int_bool : PySem.W.kitOne K (.type "int") (.type "bool") = some false := kit_of (by decide +kernel) (by decide +kernel) (by decide +kernel)
theorem bt_isinstance : bootBuiltins "isinstance" = some (.builtin "isinstance") := by decide +kernel
theorem bt_max : bootBuiltins "max" = some (.builtin "max") := by decide +kernel
theorem bt_min : bootBuiltins "min" = some (.builtin "min") := by decide +kernel
theorem bt_int : bootBuiltins "int" = some (.type "int") := by decide +kernel
theorem bt_bool : bootBuiltins "bool" = some (.type "bool") := by decide +kernel
theorem bt_list : bootBuiltins "list" = some (.type "list") := by decide +kernel
end
end L2

set_option Elab.async false
set_option linter.all false
set_option maxRecDepth 100000
set_option maxHeartbeats 4000000
namespace L2
open PySem PySem.Spec PyProof.Rows
theorem closure_of {scope : Scope} {env : Env} (h : ∀ y ∈ scope.names, y.2 = .free → ∃ c, env.cells.lookup y.1 = some c) :
    ∃ cl, closureFor scope env = pure cl ∧ (∀ x c, cl.lookup x = some c → env.cells.lookup x = some c) ∧ (∀ y ∈ scope.names, y.2 = .free → ∃ c, cl.lookup y.1 = some c) := by
  have key : ∀ (ns : List (Str × NameKind)) (cs : List (Str × Addr)), (∀ y ∈ ns, y.2 = .free → ∃ c, env.cells.lookup y.1 = some c) → (∀ x c, cs.lookup x = some c → env.cells.lookup x = some c) →
      ∃ cl, (forIn ns cs fun (x : Str × NameKind) (cs : List (Str × Addr)) => (if x.2 == .free then do let c ← cellOf env x.1; pure (ForInStep.yield ((x.1, c) :: cs)) else pure (ForInStep.yield cs) : Sem _)) = pure cl ∧
        (∀ x c, cl.lookup x = some c → env.cells.lookup x = some c) ∧ (∀ x c, cs.lookup x = some c → ∃ c, cl.lookup x = some c) ∧ (∀ y ∈ ns, y.2 = .free → ∃ c, cl.lookup y.1 = some c) := by
    intro ns
    induction ns with
    | nil => intro cs _ hc; exact ⟨cs, rfl, hc, fun x c e => ⟨c, e⟩, fun y hy => nomatch hy⟩
    | cons y r ih =>
      intro cs hn hc
      obtain ⟨n, k⟩ := y
      by_cases hk : k = .free
      · subst hk
        obtain ⟨c, e⟩ := hn (n, .free) List.mem_cons_self rfl
        obtain ⟨cl, e1, e2, e3, e4⟩ := ih ((n, c) :: cs) (fun y hy => hn y (List.mem_cons_of_mem _ hy)) (fun x c' q => by
          rw [List.lookup_cons] at q
          cases hx : x == n with
          | true =>
            rw [hx] at q
            cases q
            have : x = n := by simpa using hx
            rw [this]
            exact e
          | false =>
            rw [hx] at q
            exact hc x c' q)
        refine ⟨cl, ?_, e2, fun x c' q => ?_, fun y hy hyk => ?_⟩
        · rw [List.forIn_cons]
          have e' : env.cells.lookup n = some c := e
          simp only [beq_self_eq_true, if_true, cellOf, e']
          exact e1
        · cases hx : x == n with
          | true => exact e3 x c (by rw [List.lookup_cons, hx])
          | false => exact e3 x c' (by rw [List.lookup_cons, hx]; exact q)
        · rcases List.mem_cons.mp hy with rfl | hy
          · exact e3 n c (by rw [List.lookup_cons]; simp)
          · exact e4 y hy hyk
      · obtain ⟨cl, e1, e2, e3, e4⟩ := ih cs (fun y hy => hn y (List.mem_cons_of_mem _ hy)) hc
        refine ⟨cl, ?_, e2, e3, fun y hy hyk => ?_⟩
        · rw [List.forIn_cons]
          have hb : (k == NameKind.free) = false := by simpa using hk
          simp only [hb, Bool.false_eq_true, if_false]
          exact e1
        · rcases List.mem_cons.mp hy with rfl | hy
          · exact absurd hyk hk
          · exact e4 y hy hyk
  obtain ⟨cl, e1, e2, _, e4⟩ := key scope.names [] h (fun x c e => by simp at e)
  refine ⟨cl, ?_, e2, e4⟩
  simp only [closureFor]
  rw [show (forIn scope.names ([] : List (Str × Addr)) fun (x : Str × NameKind) (cs : List (Str × Addr)) => (if x.2 == .free then do let c ← cellOf env x.1; pure (ForInStep.yield ((x.1, c) :: cs)) else pure (ForInStep.yield cs) : Sem _)) = pure cl from e1]
  rfl
theorem relabel_inv {scope : Scope} {env : Env} {x : Str} {k : NameKind} (h : (relabel scope env).names.lookup x = some k) : ∃ k0, scope.names.lookup x = some k0 ∧ (k0 = k ∨ (k0 = .free ∧ k = .cell)) := by
  unfold relabel at h
  dsimp only at h
  revert h
  generalize scope.names = ns
  induction ns with
  | nil => intro h; simp at h
  | cons y r ih =>
    obtain ⟨n, k'⟩ := y
    intro h
    rw [List.map_cons] at h
    cases hx : x == n with
    | true =>
      rw [List.lookup_cons, hx]
      refine ⟨k', rfl, ?_⟩
      dsimp only at h
      split at h
      · rename_i hc
        rw [List.lookup_cons, hx] at h
        cases h
        rw [Bool.and_eq_true, Bool.and_eq_true] at hc
        exact .inr ⟨by simpa using hc.1.1, rfl⟩
      · rw [List.lookup_cons, hx] at h
        cases h
        exact .inl rfl
    | false =>
      rw [List.lookup_cons, hx]
      dsimp only at h
      apply ih
      split at h
      · rw [List.lookup_cons, hx] at h; exact h
      · rw [List.lookup_cons, hx] at h; exact h
theorem relabel_free {scope : Scope} {env : Env} {x : Str} (h : scope.names.lookup x = some .free) (hk : env.scope.kind = .function) (hc : env.kindOf x = some .cell) : (relabel scope env).names.lookup x = some .cell := by
  unfold relabel
  dsimp only
  revert h
  generalize scope.names = ns
  induction ns with
  | nil => intro h; simp at h
  | cons y r ih =>
    obtain ⟨n, k'⟩ := y
    intro h
    rw [List.map_cons]
    cases hx : x == n with
    | true =>
      rw [List.lookup_cons, hx] at h
      cases h
      have : x = n := by simpa using hx
      subst this
      dsimp only
      rw [if_pos (by rw [hk, hc]; rfl), List.lookup_cons, hx]
    | false =>
      rw [List.lookup_cons, hx] at h
      dsimp only
      split
      · rw [List.lookup_cons, hx]; exact ih h
      · rw [List.lookup_cons, hx]; exact ih h
section
variable {prog : Program} {w : World} {A : Around} {R : Result → Shared → Prop} {s : Shared}
theorem compLoop_any {elt target iter : Expr} {ifs : List Expr} {scope : Scope} {pos : Pos} {it acc : Value} {env : Env} (I : Nat → Shared → Prop)
    (turn : ∀ n s, I n s → wpAny (model prog w) A (pyNext it) (fun r s₁ => match r with
      | none => R (.ok .next) s₁
      | some v => wpAny (model prog w) A (letOwnedTupleGo target it v) (fun _ s₀ => wpAny (model prog w) A (assign target env v) (fun _ s₂ =>
          wpAny (model prog w) A (forIn ifs true fun c r => if r = true then do let ok ← isTrue c env (eval c env); pure (ForInStep.yield ok) else pure (ForInStep.yield r)) (fun ok s₃ =>
            if ok = true then wpAny (model prog w) A (eval elt env) (fun x s₄ =>
              wpAny (model prog w) A (call (.builtin "list.append") [acc, x]) (fun _ s₅ => ∃ m, m < n ∧ I m s₅) (fun _ _ => False) s₄) (fun _ _ => False) s₃
            else ∃ m, m < n ∧ I m s₃) (fun _ _ => False) s₂) (fun _ _ => False) s₀) (fun _ _ => False) s₁) (fun _ _ => False) s)
    (n : Nat) (h : I n s) :
    codeAny (model prog w) A (.compLoop (.ListComp elt [⟨target, iter, ifs, 0⟩] scope pos) 0 it acc env) R s := by
  refine codeAny_loop rfl I (fun n s hI => ?_) n h
  show wpAny _ A ((compTurn (.ListComp elt [⟨target, iter, ifs, 0⟩] scope pos) 0 it acc env).onRaise (fun x => do noteFrame x env; theTreesLotGoes x)) _ _ s
  refine wpAny_noted ?_
  rw [compTurn_list]
  refine wpAny_bind (wpAny_standAt (wpAny_bind (wpAny_mono (turn n s hI) (fun r s₁ h₁ => ?_) fun _ _ h' => h'.elim)))
  cases r with
  | none => exact wpAny_pure h₁
  | some v =>
    refine wpAny_bind (wpAny_mono h₁ (fun _ s₀ h₀ => ?_) fun _ _ h' => h'.elim)
    refine wpAny_bind (wpAny_mono h₀ (fun _ s₂ h₂ => wpAny_bind (wpAny_mono h₂ (fun ok s₃ h₃ => ?_) fun _ _ h' => h'.elim)) fun _ _ h' => h'.elim)
    cases ok with
    | false => exact wpAny_pure ⟨rfl, h₃⟩
    | true =>
      exact wpAny_bind (wpAny_bind (wpAny_mono h₃ (fun x s₄ h₄ => wpAny_bind (wpAny_mono h₄ (fun _ s₅ h₅ => wpAny_pure (wpAny_pure ⟨rfl, h₅⟩)) fun _ _ h' => h'.elim)) fun _ _ h' => h'.elim))
end

section
variable {X : Cx} {pins : List (Addr × Obj)} {σ : St} {H : Hp} {s : Shared}
def PCs (X : Cx) (ifs : List Expr) (t : TT) : Prop :=
  ∀ (pins : List (Addr × Obj)) (s : Shared) (σ : St) (H : Hp) (Q : Bool → Hp → Prop), Inv X pins σ H s → t σ H Q →
    wpAny (model X.prog X.w) X.A (forIn ifs true fun c r => if r = true then do let ok ← isTrue c X.env (eval c X.env); pure (ForInStep.yield ok) else pure (ForInStep.yield r)) (TP X pins σ Q) X.xe s
def tYes : TT := fun _ H Q => Q true H
theorem yesT {σ : St} {H : Hp} {A B : Hp → Prop} (h : A H) : tYes σ H (fun b H3 => if b = true then A H3 else B H3) := by
  show (if true = true then A H else B H)
  exact iteT h
theorem nameYes {i : Nat} {x : V} {σ : St} {H : Hp} {A B : St → Hp → Prop} (h : A (σ.set i (some x)) H) : gName i x σ H (fun σ2 H2 => tYes σ2 H2 (fun b H3 => if b = true then A σ2 H3 else B σ2 H3)) := by
  show (if true = true then A (σ.set i (some x)) H else B (σ.set i (some x)) H)
  exact iteT h
theorem pcs_nil : PCs X [] tYes := fun pins s σ H Q I h => wpAny_tests_nil ⟨H, I, h⟩
theorem pcs_one {c : Expr} {t : TT} (h : PT X c t) : PCs X [c] t := fun pins s σ H Q I q => wpAny_tests_one (h pins s σ H Q I q)
end
def pick (n : Nat) (outs : List Nat) (σ : St) : St := List.replicate n none ++ outs.map fun j => (σ[j]?).join
theorem pick_len (n : Nat) (outs : List Nat) (σ : St) : (pick n outs σ).length = n + outs.length := by
  unfold pick
  rw [List.length_append, List.length_replicate, List.length_map]
def cxComp (X : Cx) (N' : List Str) (scope : Scope) (cl : List (Str × Addr)) (C : Addr) (s : Shared) (H : Hp) (ex : List Addr) : Cx where
  prog := X.prog
  w := X.w
  K := X.K
  mg := X.mg
  base := X.base
  A := X.A
  N := N'
  s₀ := s
  H₀ := H
  env := compEnvC scope cl C X.env
  outer := X.stack
  stack := X.stack
  ex := ex
  fn := fun _ => false
  calm := X.calm
  pn := []
  xe := fun _ _ => False
structure CompScope (dsc scope : Scope) (N tgs : List Str) (outs : List Nat) (N' : List Str) : Prop where
  kind : scope.kind = .function
  names : ∀ x ∈ scope.names, x.2 = .local → scope.names.lookup x.1 = some .local
  nocell : ∀ y ∈ scope.names, y.2 ≠ .cell
  free : ∀ y ∈ scope.names, y.2 = .free → dsc.names.lookup y.1 = some .cell
  isN : N' = tgs ++ outs.map (fun j => N.getD j "")
  lts : ∀ j ∈ outs, j < N.length
  outF : ∀ j ∈ outs, scope.names.lookup (N.getD j "") = some .free
  nd : N'.Nodup
def Tgt (n : Nat) (g : TG) : Prop := ∀ x σ H Q, g x σ H Q → g x σ H (fun σ2 H2 => Q σ2 H2 ∧ σ2.length = σ.length ∧ ∀ i, n ≤ i → σ2[i]? = σ[i]?)
theorem tgt_name {n i : Nat} (h : i < n) : Tgt n (gName i) := fun x σ H Q q => ⟨q, by rw [List.length_set], fun j hj => List.getElem?_set_ne (by omega)⟩
def Tgts (n : Nat) (g : TGs) : Prop := ∀ xs σ H Q, g xs σ H Q → g xs σ H (fun σ2 H2 => Q σ2 H2 ∧ σ2.length = σ.length ∧ ∀ i, n ≤ i → σ2[i]? = σ[i]?)
theorem tgts_nil {n : Nat} : Tgts n gNil := fun xs σ H Q ⟨e, q⟩ => ⟨e, q, rfl, fun _ _ => rfl⟩
def TMono (g : TGs) : Prop := ∀ xs σ H Q Q', (∀ σ2 H2, Q σ2 H2 → Q' σ2 H2) → g xs σ H Q → g xs σ H Q'
theorem tgts_name {n i : Nat} {u : TGs} (h : i < n) (hu : Tgts n u) (mu : TMono u) : Tgts n (gCons (gName i) u) := fun xs σ H Q ⟨v, r, e, q⟩ => by
  refine ⟨v, r, e, ?_⟩
  have z := hu r (σ.set i (some v)) H Q q
  refine mu r _ H _ _ (fun σ2 H2 ⟨a, b, c⟩ => ⟨a, ?_, fun j hj => ?_⟩) z
  · rw [b, List.length_set]
  · rw [c j hj, List.getElem?_set_ne (by omega)]
theorem tmono_nil : TMono gNil := fun xs σ H Q Q' h ⟨e, q⟩ => ⟨e, h _ _ q⟩
theorem tmono_name {i : Nat} {u : TGs} (mu : TMono u) : TMono (gCons (gName i) u) := fun xs σ H Q Q' h ⟨v, r, e, q⟩ => ⟨v, r, e, mu r _ H _ _ h q⟩
theorem tgt_tup {K : PySem.W.Frag} {n k : Nat} {t : TGs} (h : Tgts n t) : Tgt n (gTup K k t) := fun x σ H Q ⟨a, xs, e, hq, hl, q⟩ => ⟨a, xs, e, hq, hl, h xs σ H Q q⟩
def tComp (n : Nat) (outs : List Nat) (wi : TI) (g : TG) (tc : TT) (te : TE) : TE := fun σ H Q => wi σ H fun J H1 =>
  ∃ W : Nat → Nat → List V → Hp → Prop, (∃ m, W 0 m [] H1) ∧ ∀ i m acc H, W i m acc H →
    (J.stop i H ∧ acc.length ≤ sizeLine ∧ ∀ l, H l = none → Q (.ref l) (upd H l (.lst acc))) ∨
    (J.go i H ∧ acc.length < sizeLine ∧ ∃ N : List V → Hp → Prop, (∀ acc' H', N acc' H' → ∃ m', m' < m ∧ W (i + 1) m' acc' H') ∧ ∀ x H', J.yld i H x H' → g x (pick n outs σ) H' fun σ2 H2 => tc σ2 H2 fun b H3 =>
      if b = true then te σ2 H3 fun y H4 => N (acc ++ [y]) H4 else N acc H3)
section
variable {X : Cx} {pins : List (Addr × Obj)} {σ : St} {H2 : Hp} {s2 : Shared} {dsc scope : Scope} {tgs N' : List Str} {outs : List Nat} {cl : List (Str × Addr)} {fp : List Addr} {C D : Addr} {h1 : Heap} {tk : Nat} {mC : Str → Option Value}
theorem comp_start (S : CompScope dsc scope X.N tgs outs N') (hsc : X.env.scope = dsc) (I2 : Inv X pins σ H2 s2) (f2 : ∀ b ∈ fp, FpOk X pins H2 b) (hfp : ∀ b ∈ fp, b < s2.heap.objs.size)
    (hcl1 : ∀ x c, cl.lookup x = some c → X.env.cells.lookup x = some c) (hcl2 : ∀ y ∈ scope.names, y.2 = .free → ∃ c, cl.lookup y.1 = some c)
    (hC : s2.heap.objs.size ≤ C) (kp : ∀ b o, s2.heap.get? b = some o → h1.get? b = some o) (nC : h1.Ns C mC) :
    Inv (cxComp X N' scope cl C s2 H2 fp) [] (pick tgs.length outs σ) H2 { s2 with heap := h1, toks := tk } := by
  have freeAt : ∀ x, scope.names.lookup x = some .free → (relabel scope X.env).names.lookup x = some .cell := fun x e =>
    relabel_free e I2.ok.kind (by show X.env.scope.names.lookup x = some .cell; rw [hsc]; exact S.free (x, .free) (PySem.mem_of_lookup e) rfl)
  refine ⟨⟨I2.ok.mod, ?_, I2.ok.glob, I2.ok.blt, hC, fun x y c e1 e2 => I2.ok.inj x y c (hcl1 x c e1) (hcl1 y c e2), fun x hx => ?_, (fun x c h => nomatch h), I2.ok.hd, I2.ok.frames, .inl rfl, fun b hb => ?_, I2.bs, Nat.le_trans I2.ok.bsz I2.sz, fun b o e hb => ?_, fun b hb => ?_, I2.stack, I2.stkFree⟩,
    rfl, I2.bare, Un.kept kp, ⟨mC, nC, fun i x v e1 e2 e3 => ?_⟩, fun x c e => ?_, I2.hok.fresh hC, fun x c e => I2.freeC x c (hcl1 x c e), fun p hp => absurd (show p ∈ ([] : List (Addr × Obj)) from hp) (by simp), I2.hok.kept kp, ?_⟩
  · exact S.kind
  · have hx' : (relabel scope X.env).names.lookup x = some .cell ∨ (relabel scope X.env).names.lookup x = some .free := hx
    have z : scope.names.lookup x = some .free := by
      rcases hx' with hx' | hx'
      · obtain ⟨k0, e, h | ⟨h, _⟩⟩ := relabel_inv hx'
        · rw [h] at e
          exact absurd rfl (S.nocell _ (PySem.mem_of_lookup e))
        · rw [h] at e; exact e
      · obtain ⟨k0, e, h | ⟨h, _⟩⟩ := relabel_inv hx'
        · rw [h] at e; exact e
        · rw [h] at e; exact e
    exact hcl2 (x, .free) (PySem.mem_of_lookup z) rfl
  · refine ⟨fun z => ?_, fun x c e => (f2 b hb).2.2.2.2.1 x c (hcl1 x c e)⟩
    have z' : b = C := z
    exact absurd (Nat.lt_of_lt_of_le (hfp b hb) hC) (by rw [z']; exact Nat.lt_irrefl _)
  · rcases (f2 b hb).2.2.2.1 with z | z
    · exact I2.ok.noex b o e z
    · exact absurd (Nat.lt_of_lt_of_le (Heap.lt_size e) (Nat.le_trans I2.ok.bsz z)) (Nat.lt_irrefl _)
  · intro z
    rcases List.mem_cons.mp (I2.stkSub b z) with z | z
    · exact (f2 b hb).2.1 z
    · exact (f2 b hb).2.2.1 z
  · have e2' : (List.replicate tgs.length (none : Option V) ++ outs.map fun j => (σ[j]?).join)[i]? = some (some v) := e2
    have e1' : N'[i]? = some x := e1
    by_cases hi : i < tgs.length
    · rw [List.getElem?_append_left (by rw [List.length_replicate]; exact hi), List.getElem?_replicate, if_pos hi] at e2'
      cases e2'
    · rw [List.getElem?_append_right (by rw [List.length_replicate]; omega), List.length_replicate, List.getElem?_map] at e2'
      rw [S.isN, List.getElem?_append_right (by omega), List.getElem?_map] at e1'
      cases ej : outs[i - tgs.length]? with
      | none => rw [ej] at e2'; cases e2'
      | some j =>
        rw [ej] at e1' e2'
        have hj : j ∈ outs := List.mem_of_getElem? ej
        have ex : X.N.getD j "" = x := Option.some.inj e1'
        have ev : (σ[j]?).join = some v := Option.some.inj e2'
        have ev' : σ[j]? = some (some v) := by
          cases q : σ[j]? with
          | none => rw [q] at ev; cases ev
          | some o => rw [q] at ev; exact congrArg some ev
        have eN : X.N[j]? = some x := by
          have hl := S.lts j hj
          rw [← ex, List.getD_eq_getElem?_getD, List.getElem?_eq_getElem hl]
          rfl
        have fx : scope.names.lookup x = some .free := by rw [← ex]; exact S.outF j hj
        have cx : X.env.scope.names.lookup x = some .cell := by rw [hsc]; exact S.free (x, .free) (PySem.mem_of_lookup fx) rfl
        obtain ⟨m, hn, hl⟩ := I2.loc
        obtain ⟨u, ru, lk⟩ := hl j x v eN ev' (.inr (.inl cx))
        refine ⟨u, ru, ?_⟩
        rcases lk with ⟨k, _⟩ | ⟨k, c, ec, ⟨oc, hoc, hdc⟩⟩
        · have k' : X.env.scope.names.lookup x = some .local := k
          rw [cx] at k'; cases k'
        · obtain ⟨c', ec'⟩ := hcl2 (x, .free) (PySem.mem_of_lookup fx) rfl
          have ecc := hcl1 x c' ec'
          rw [ec] at ecc
          cases ecc
          exact .inr ⟨.inl (freeAt x fx), c, ec', oc, kp _ _ hoc, hdc⟩
  · obtain ⟨v, oc, hoc, hdc⟩ := I2.cell x c (hcl1 x c e)
    exact ⟨v, oc, kp _ _ hoc, hdc⟩
  · show (pick tgs.length outs σ).length = N'.length
    rw [pick_len, S.isN, List.length_append, List.length_map]
theorem comp_end {σ5 : St} {H5 : Hp} {s5 : Shared} {acc : List V} {its : List Value} {n : Nat} (I2 : Inv X pins σ H2 s2) (I5 : Inv (cxComp X N' scope cl C s2 H2 fp) [] σ5 H5 s5) (f2 : ∀ b ∈ fp, FpOk X pins H2 b)
    (hD : s2.heap.objs.size ≤ D) (eD : s5.heap.get? D = some { cls := .type "list", data := .seq its.toArray n }) (r : Vals acc its) (hz : acc.length ≤ sizeLine) (hn : H5 D = none) : Inv X pins σ (upd H5 D (.lst acc)) s5 := by
  have ne : ∀ b o, s2.heap.get? b = some o → b ≠ D := fun b o e z => absurd (Nat.lt_of_lt_of_le (Heap.lt_size e) (by rw [z]; exact hD)) (Nat.lt_irrefl _)
  refine I2.call' (ch := fp) I5.os ⟨fun b o e nn hb hx => ?_, fun b o e nn hb hx => ?_, fun b o e nn hx => ?_, fun b o e hx => ?_, fun b xs e => ?_, fun b o u e => ?_, fun b ps e => ?_⟩ (fun b u e => ?_) I5.bare fun b hb => ⟨(f2 b hb).2.2.2.1, (f2 b hb).2.1, (f2 b hb).2.2.2.2.1, (f2 b hb).2.2.2.2.2⟩
  · exact I5.base.keep b o e nn hb hx
  · exact I5.base.slot b o e nn hb hx
  · rw [upd_ne (ne b o e)]
    exact I5.base.free b o e nn hx
  · exact I5.base.there b o e hx
  · have q := I5.base.tups b xs e
    rw [upd_ne (ne_of_none q hn)]
    exact q
  · have q := I5.base.frzs b o u e
    rw [upd_ne (ne_of_none q hn)]
    exact q
  · obtain ⟨more, q⟩ := I5.base.tbls b ps e
    refine ⟨more, ?_⟩
    rw [upd_ne (ne_of_none q hn)]
    exact q
  · by_cases hb : b = D
    · subst hb
      rw [upd_same] at e
      cases e
      exact ⟨hz, its, n, r, eD⟩
    · rw [upd_ne hb] at e
      exact (I5.hok b u e).stay (fun c v _ q => q) (fun c q => by rw [upd_ne (ne_of_none q hn)]; exact q) fun c xs q => by rw [upd_ne (ne_of_none q hn)]; exact q
end

theorem pick_weak {n : Nat} {outs : List Nat} {σ σ6 : St} (k6 : ∀ i, n ≤ i → σ6[i]? = (pick n outs σ)[i]?) : ∀ (i : Nat) v, (pick n outs σ)[i]? = some (some v) → σ6[i]? = some (some v) := fun i v e => by
  by_cases hi : n ≤ i
  · rw [k6 i hi]; exact e
  · unfold pick at e
    rw [List.getElem?_append_left (by rw [List.length_replicate]; omega), List.getElem?_replicate, if_pos (by omega)] at e
    cases e
section
variable {X : Cx} {tg elt iter : Expr} {ifs : List Expr} {dsc scope : Scope} {tgs N' : List Str} {outs : List Nat} {wi : TI} {g : TG} {tc : TT} {te : TE} {pos : Pos}
theorem comp_block {pins : List (Addr × Obj)} {σ : St} {H2 : Hp} {s2 : Shared} {cl : List (Str × Addr)} {it : Addr} {fp : List Addr} {tn : Nat → Heap → Prop} {J : It} (S : CompScope dsc scope X.N tgs outs N') (hsc : X.env.scope = dsc) (hc : X.calm = true)
    (hg : ∀ cl C s H ex, PG (cxComp X N' scope cl C s H ex) tg g) (hgt : Tgt tgs.length g) (hcs : ∀ cl C s H ex, PCs (cxComp X N' scope cl C s H ex) ifs tc) (he : ∀ cl C s H ex, PE (cxComp X N' scope cl C s H ex) elt te)
    (hcl1 : ∀ x c, cl.lookup x = some c → X.env.cells.lookup x = some c) (hcl2 : ∀ y ∈ scope.names, y.2 = .free → ∃ c, cl.lookup y.1 = some c)
    (I2 : Inv X pins σ H2 s2) (T : Turn X.prog X.w X.K tg J fp it tn) (st2 : tn 0 s2.heap) (f2 : ∀ b ∈ fp, FpOk X pins H2 b)
    {W : Nat → Nat → List V → Hp → Prop} {m0 : Nat} (w0 : W 0 m0 [] H2) {Qf : List V → Hp → Prop}
    (turn : ∀ i m acc H, W i m acc H → (J.stop i H ∧ acc.length ≤ sizeLine ∧ Qf acc H) ∨ (J.go i H ∧ acc.length < sizeLine ∧ ∃ N : List V → Hp → Prop, (∀ acc' H', N acc' H' → ∃ m', m' < m ∧ W (i + 1) m' acc' H') ∧ ∀ x H', J.yld i H x H' → g x (pick tgs.length outs σ) H' fun σ2 H2 => tc σ2 H2 fun b H3 =>
      if b = true then te σ2 H3 fun y H4 => N (acc ++ [y]) H4 else N acc H3))
    {E : Value → Shared → Prop} {RR : Value → Addr → Result → Shared → Prop}
    (fin : ∀ D C s5 mC acc H5, Inv X pins σ (upd H5 D (.lst acc)) s5 → H5 D = none → Qf acc H5 → s5.heap.Ns C mC → FpOk X pins (upd H5 D (.lst acc)) C → RR (.ref D) C (.ok .next) s5) :
    wpAny (model X.prog X.w) X.A (newList []) (fun acc s₃ => wpAny (model X.prog X.w) X.A (newFunctionEnv scope X.env.globals cl [] X.env.qual none .none (some X.env)) (fun cenv s₄ =>
      codeAny (model X.prog X.w) X.A (.compStart (.ListComp elt [⟨tg, iter, ifs, 0⟩] scope pos) 0 (.ref it) acc { cenv with scope := relabel scope X.env }) (RR acc cenv.locals) s₄) E s₃) E s2 := by
  have hfp : ∀ b ∈ fp, b < s2.heap.objs.size := fun b hb => let ⟨o, e, _⟩ := T.obj 0 _ st2 b hb; Heap.lt_size e
  refine wpAny_newObj_type (wpAny_newFunctionEnv S.nocell (by intro y hy; simp at hy) (fun h₁ hns₁ hsb₁ => ?_) S.kind)
  dsimp only at hns₁ hsb₁ ⊢
  generalize hHH : s2.heap.push { cls := .type "list", dict := none, data := .seq ([] : List Value).toArray } = HH at hns₁ hsb₁ ⊢
  have hC : HH.objs.size = s2.heap.objs.size + 1 := by rw [← hHH, Heap.size_push]
  have hDC : s2.heap.objs.size ≠ HH.objs.size := by rw [hC]; exact Nat.ne_of_lt (Nat.lt_succ_self _)
  have hCle : s2.heap.objs.size ≤ HH.objs.size := by rw [hC]; exact Nat.le_succ _
  have old : ∀ b o, s2.heap.get? b = some o → h₁.get? b = some o := fun b o e => hsb₁.extBut b o (by rw [hC]; exact Nat.ne_of_lt (Nat.lt_succ_of_lt (Heap.lt_size e))) (Heap.get?_push_of_some _ (hHH ▸ Heap.get?_push_of_some _ e))
  have hacc : h₁.get? s2.heap.objs.size = some { cls := .type "list", data := .seq ([] : List Value).toArray 0 } := hsb₁.extBut _ _ hDC (Heap.get?_push_of_some _ (hHH ▸ Heap.get?_push_size _ rfl))
  have hDfp : ∀ b ∈ fp, s2.heap.objs.size ≠ b := fun b hb => Nat.ne_of_gt (hfp b hb)
  have fresh2 : H2 s2.heap.objs.size = none := I2.hok.fresh (Nat.le_refl _)
  have I4 := comp_start (tk := s2.toks + ([] : List (Str × Value)).length) S hsc I2 f2 hfp hcl1 hcl2 hCle old hns₁
  have st1 : tn 0 h₁ := T.keep 0 _ _ st2 fun b hb o e => old b o e
  generalize hCC : HH.objs.size = C at *
  generalize hDD : s2.heap.objs.size = D at *
  have nofs : D ∉ (cxComp X N' scope cl C s2 H2 fp).fs := fun z => by
    obtain ⟨_, o, ho, _⟩ := I2.stack.mem (show D ∈ frs X.stack from z)
    have := Heap.lt_size ho
    rw [hDD] at this
    exact Nat.lt_irrefl _ this
  have pinD : ∀ {σ' : St} {H' : Hp} {s' : Shared} {its : List Value} {n : Nat}, Inv (cxComp X N' scope cl C s2 H2 fp) [] σ' H' s' → s'.heap.get? D = some { cls := .type "list", data := .seq its.toArray n } → H' D = none →
      Inv (cxComp X N' scope cl C s2 H2 fp) [(D, { cls := .type "list", data := .seq its.toArray n })] σ' H' s' := fun {σ' H' s' its n} J e hn => J.pins_of fun p hp => by
    have ep : p = (D, { cls := .type "list", data := .seq its.toArray n }) := by simpa using hp
    subst ep
    exact ⟨e, hn, hDC, nofs, fun v z => by cases z⟩
  have stat : ∀ {H' : Hp} {o : Obj}, (∀ b ∈ fp, H' b = none) → ∀ b ∈ fp, FpOk (cxComp X N' scope cl C s2 H2 fp) [(D, o)] H' b := fun {H' o} hn b hb => by
    refine ⟨hn b hb, (I4.ok.exf b hb).1, I4.ok.exfs b hb, .inl hb, (I4.ok.exf b hb).2, fun p hp => ?_⟩
    have hp' : p ∈ ([] : List (Addr × Obj)) ++ [(D, o)] := hp
    have ep : p = (D, o) := by simpa using hp'
    subst ep
    exact hDfp b hb
  have loop : ∀ s₃ : Shared, s₃ = { s2 with heap := h₁, toks := s2.toks + ([] : List (Str × Value)).length } →
      codeAny (model X.prog X.w) X.A (.compLoop (.ListComp elt [⟨tg, iter, ifs, 0⟩] scope pos) 0 (.ref it) (.ref D) (compEnvC scope cl C X.env)) (RR (.ref D) C) s₃ := by
    rintro s₃ rfl
    refine compLoop_any (fun m s' => ∃ i acc H its n, Inv (cxComp X N' scope cl C s2 H2 fp) [(D, { cls := .type "list", data := .seq its.toArray n })] (pick tgs.length outs σ) H s' ∧ tn i s'.heap ∧ (∀ b ∈ fp, H b = none) ∧ Vals acc its ∧ W i m acc H) ?_ m0
      ⟨0, [], H2, [], 0, pinD I4 hacc fresh2, st1, fun b hb => (f2 b hb).1, .nil, w0⟩
    rintro m s' ⟨i, acc, H, its, n, I', st', fr', rD, w'⟩
    rcases turn i m acc H w' with ⟨stop, hz, q⟩ | ⟨go, hz, N, hN, step⟩
    · refine thn (T.done (cxComp X N' scope cl C s2 H2 fp) rfl rfl rfl hc i _ s' _ H _ I' (stat fr') st' stop) fun r s4 ⟨hr, J4⟩ => ?_
      subst hr
      obtain ⟨eD, nD, _⟩ := J4.pin (D, { cls := .type "list", data := .seq its.toArray n }) (List.mem_append_right _ List.mem_cons_self)
      obtain ⟨mC, nsC, _⟩ := J4.loc
      have I5 : Inv X pins σ (upd H D (.lst acc)) s4 := comp_end (D := D) I2 (J4.pins_of (pins' := []) (fun p hp => nomatch hp)) f2 (by rw [hDD]; exact Nat.le_refl _) eD rD hz nD
      refine fin D C s4 mC acc H I5 nD q nsC (I2.fpOk (by rw [hDD]; exact hCle) ?_)
      rw [upd_ne (Ne.symm hDC)]
      exact J4.free
    · refine thn (T.item (cxComp X N' scope cl C s2 H2 fp) rfl rfl rfl hc i _ s' _ H _ I' (stat fr') st' go) fun r s4 ⟨u, hr, h4⟩ => ?_
      subst hr
      dsimp only
      refine thn h4 fun _ s5 ⟨x, H5, I5, r5, y5, st5, fr5⟩ => ?_
      have I5' := I5.pinned (stat fr5) (T.obj _ _ st5)
      refine thn (hg cl C s2 H2 fp _ s5 _ H5 x u _ I5' r5 (hgt x _ H5 _ (step x H5 y5))) fun _ s6 ⟨σ6, H6, I6, q6, l6, k6⟩ => ?_
      refine thn (hcs cl C s2 H2 fp _ s6 σ6 H6 _ I6 q6) fun b s7 ⟨H7, I7, q7⟩ => ?_
      have tail : ∀ {H' : Hp} {s' : Shared}, Inv (cxComp X N' scope cl C s2 H2 fp) ([(D, { cls := .type "list", data := .seq its.toArray n })] ++ pinsAt fp s5.heap) σ6 H' s' → (∀ b ∈ fp, ∀ o, s5.heap.get? b = some o → s'.heap.get? b = some o) ∧ ∀ b ∈ fp, H' b = none := fun {H' s'} J =>
        ⟨fun b hb o e => (J.pin (b, o) (List.mem_append_right _ (List.mem_append_right _ (mem_pinsAt hb e)))).1, fun b hb => by
          obtain ⟨o, e, d⟩ := T.obj _ _ st5 b hb
          exact (J.pin (b, o) (List.mem_append_right _ (List.mem_append_right _ (mem_pinsAt hb e)))).2.1⟩
      cases b with
      | false =>
        rw [if_neg Bool.false_ne_true] at q7 ⊢
        obtain ⟨m', hm, w7⟩ := hN _ _ q7
        obtain ⟨t1, t2⟩ := tail I7
        exact ⟨m', hm, i + 1, acc, H7, its, n, I7.unpinned.weak l6.symm (pick_weak k6), T.keep _ _ _ st5 t1, t2, rD, w7⟩
      | true =>
        rw [if_pos rfl] at q7 ⊢
        refine thn (he cl C s2 H2 fp _ s7 σ6 H7 _ I7 q7) fun v s8 ⟨y, H8, I8, r8, q8⟩ => ?_
        obtain ⟨m', hm, w8⟩ := hN _ _ q8
        obtain ⟨t1, t2⟩ := tail I8
        obtain ⟨eD, nD, _⟩ := I8.pin (D, { cls := .type "list", data := .seq its.toArray n }) (List.mem_append_right _ (List.mem_append_left _ List.mem_cons_self))
        have hl := rD.length
        refine call_meets F.slot_list_append ⟨_, eD, rfl⟩ F.entry_list_append (F.args_list_append_2 _ _) (PySem.list_append D its.toArray n v (by rw [List.size_toArray]; omega)) ⟨eD, ?_⟩
        have q := PySem.IsL.update eD (·.push v)
        have eA : its.toArray.push v = (its ++ [v]).toArray := by simp
        rw [eA] at q
        refine ⟨m', hm, i + 1, acc ++ [y], H8, its ++ [v], _, pinD (Inv.weak (Inv.turned (it := D) (I8.pins_of (pins' := []) (fun p hp => nomatch hp)) (fun b o hb e => (Heap.get?_update_other _ _ (Ne.symm hb)).trans e) nD hDC (.inr (by show s2.heap.objs.size ≤ D; rw [hDD]; exact Nat.le_refl _)) (fun x c e z => ?_) (fun p hp => nomatch hp)) l6.symm (pick_weak k6)) q nD,
          T.keep _ _ _ st5 (fun b hb o e => (Heap.get?_update_other _ _ (hDfp b hb)).trans (t1 b hb o e)), t2, rD.append (.cons r8 .nil), w8⟩
        obtain ⟨v', oc, hoc, hdc⟩ := I8.cell x c e
        rw [z, eD] at hoc
        cases hoc
        cases hdc
  exact codeAny_compStart_list (loop _ rfl) (T.self X.A 0 _ _ _ st1 (loop _ rfl))
theorem pe_comp {N : List Str} (S : CompScope dsc scope N tgs outs N') (hi : PI X tg iter wi) (hg : ∀ cl C s H ex, PG (cxComp X N' scope cl C s H ex) tg g) (hgt : Tgt tgs.length g) (hcs : ∀ cl C s H ex, PCs (cxComp X N' scope cl C s H ex) ifs tc)
    (he : ∀ cl C s H ex, PE (cxComp X N' scope cl C s H ex) elt te) (hN0 : X.N = N := by rfl) (hsc : X.env.scope = dsc := by rfl) (hc : X.calm = true := by rfl) (hs : ∀ x, foldedSetIterable iter X.env x = pure x := by intro _; rfl) :
    PE X (.ListComp elt [⟨tg, iter, ifs, 0⟩] scope pos) (tComp tgs.length outs wi g tc te) := by
  subst hN0
  intro pins s σ H Q I h
  obtain ⟨cl, e1, e2, e3⟩ := closure_of (scope := scope) (env := X.env) (fun y hy hk => I.ok.has y.1 (.inl (by show X.env.scope.names.lookup y.1 = _; rw [hsc]; exact S.free y hy hk)))
  rw [eval_ListComp]
  refine wpAny_comprehension_free (use := none) rfl hs e1 S.kind S.names (wpAny_mono (hi pins s σ H _ I h) (fun xv s1 h1 => wpAny_mono h1 (fun itv s2 h2 => ?_) fun _ _ e => e) fun _ _ e => e)
  obtain ⟨it, fp, tn, J, H2, rfl, I2, T, st2, f2, W, ⟨m0, w0⟩, turn⟩ := h2
  refine comp_block (RR := fun acc C => compPost (model X.prog X.w) X.A X.xe none (EP X pins σ Q) acc C) S hsc hc hg hgt hcs he e2 e3 I2 T st2 f2 w0 (Qf := fun acc H => ∀ l, H l = none → Q (.ref l) (upd H l (.lst acc))) turn ?_
  intro D C s5 mC acc H5 I5 nD q nsC hf
  refine ⟨mC, nsC, fun h' hs' => ⟨.ref D, _, ?_, rfl, q D nD⟩⟩
  exact I5.turned (it := C) (t' := s5.toks) (fun b o hb e => (hs'.2 b hb).trans e) hf.1 hf.2.1 hf.2.2.2.1 hf.2.2.2.2.1 hf.2.2.2.2.2
theorem ps_setC {N : List Str} {i : Nat} {x : Str} {px spos : Pos} (hN : X.N.Nodup) (hx : X.N[i]? = some x) (hl : X.env.scope.names.lookup x = some .local) (S : CompScope dsc scope N tgs outs N') (hi : PI X tg iter wi) (hg : ∀ cl C s H ex, PG (cxComp X N' scope cl C s H ex) tg g) (hgt : Tgt tgs.length g)
    (hcs : ∀ cl C s H ex, PCs (cxComp X N' scope cl C s H ex) ifs tc) (he : ∀ cl C s H ex, PE (cxComp X N' scope cl C s H ex) elt te)
    (hsw : swapsWith (.ListComp elt [⟨tg, iter, ifs, 0⟩] scope pos) (some (.Name x px)) spos.line X.env = pure true := by rfl)
    (hN0 : X.N = N := by rfl) (hsc : X.env.scope = dsc := by rfl) (hc : X.calm = true := by rfl) (hs : ∀ x, foldedSetIterable iter X.env x = pure x := by intro _; rfl) :
    PS X (.Assign [.Name x px] (.ListComp elt [⟨tg, iter, ifs, 0⟩] scope pos) spos) (tAsg (tComp tgs.length outs wi g tc te) (gName i)) := by
  subst hN0
  intro pins s σ H Dn I h
  obtain ⟨cl, e1, e2, e3⟩ := closure_of (scope := scope) (env := X.env) (fun y hy hk => I.ok.has y.1 (.inl (by show X.env.scope.names.lookup y.1 = _; rw [hsc]; exact S.free y hy hk)))
  rw [exec_Assign_Name_used _ _ _ _ hsw]
  refine wpAny_bind (wpAny_standAt (wpAny_bind ?_))
  show wpAny _ X.A (do let _ ← comprehension (.ListComp elt [⟨tg, iter, ifs, 0⟩] scope pos) scope X.env _ (newList []) false (eval iter X.env) (some (assign (.Name x px) X.env))) _ _ s
  refine wpAny_bind (wpAny_mono (wpAny_comprehension_free (use := some (assign (.Name x px) X.env)) (Q := fun _ s' => SP X pins Dn .next s') rfl hs e1 S.kind S.names
    (wpAny_mono (hi pins s σ H _ I h) (fun xv s1 h1 => wpAny_mono h1 (fun itv s2 h2 => ?_) fun _ _ e => e) fun _ _ e => e)) (fun _ s' hq => wpAny_pure (wpAny_pure hq)) fun _ _ e => e)
  obtain ⟨it, fp, tn, J, H2, rfl, I2, T, st2, f2, W, ⟨m0, w0⟩, turn⟩ := h2
  refine comp_block (RR := fun acc C => compPost (model X.prog X.w) X.A X.xe (some (assign (.Name x px) X.env)) (fun _ s' => SP X pins Dn .next s') acc C) S hsc hc hg hgt hcs he e2 e3 I2 T st2 f2 w0
    (Qf := fun acc H => ∀ l, H l = none → Dn.nx (σ.set i (some (.ref l))) (upd H l (.lst acc))) turn ?_
  intro D C s5 mC acc H5 I5 nD q nsC hf
  show wpAny _ X.A (assign (.Name x px) X.env (.ref D)) _ _ _
  refine wpAny_assign_Name (store_ok2 I5 hN hx (.inl hl) (show RelV (.ref D) (.ref D) from rfl) (fun s' I' ⟨a, sb, ha⟩ => ?_) (.inr hl))
  have hCa : C ≠ a := by
    rcases ha with ha | ha
    · rw [ha]; exact hf.2.1
    · exact Ne.symm (hf.2.2.2.2.1 x a ha)
  refine ⟨mC, nsC.sameBut sb hCa, fun h' hs' => ⟨_, _, I'.turned (it := C) (t' := s'.toks) (fun b o hb e => (hs'.2 b hb).trans e) hf.1 hf.2.1 hf.2.2.2.1 hf.2.2.2.2.1 hf.2.2.2.2.2, q D nD⟩⟩
end

theorem comp_list {K : PySem.W.Frag} {a : Addr} {xs : List V} {g : TG} {tc : TT} {te : TE} {σ' : St} {H1 : Hp} {Fin : List V → Hp → Prop} (Pv : Nat → List V → Hp → Prop) (hz : xs.length ≤ 1000000) (h0 : Pv 0 [] H1) (hl : ∀ i acc H, i ≤ xs.length → Pv i acc H → SqL K H a xs ∧ acc.length ≤ i)
    (hs : ∀ i x acc H, xs[i]? = some x → Pv i acc H → g x σ' H fun σ2 H2 => tc σ2 H2 fun b H3 => if b = true then te σ2 H3 fun y H4 => Pv (i + 1) (acc ++ [y]) H4 else Pv (i + 1) acc H3) (hd : ∀ acc H, Pv xs.length acc H → Fin acc H) :
    ∃ W : Nat → Nat → List V → Hp → Prop, (∃ m, W 0 m [] H1) ∧ ∀ i m acc H, W i m acc H → ((Itl K a).stop i H ∧ acc.length ≤ sizeLine ∧ Fin acc H) ∨
      ((Itl K a).go i H ∧ acc.length < sizeLine ∧ ∃ N : List V → Hp → Prop, (∀ acc' H', N acc' H' → ∃ m', m' < m ∧ W (i + 1) m' acc' H') ∧ ∀ x H', (Itl K a).yld i H x H' → g x σ' H' fun σ2 H2 => tc σ2 H2 fun b H3 => if b = true then te σ2 H3 fun y H4 => N (acc ++ [y]) H4 else N acc H3) := by
  have zl : (1000000 : Nat) < sizeLine := by rw [sizeLine_eq]; decide
  refine ⟨fun i m acc H => m = xs.length - i ∧ i ≤ xs.length ∧ Pv i acc H, ⟨xs.length, by simp, Nat.zero_le _, h0⟩, ?_⟩
  rintro i m acc H ⟨rfl, hi, p⟩
  obtain ⟨q, al⟩ := hl i acc H hi p
  by_cases hlt : i < xs.length
  · refine .inr ⟨⟨xs, xs[i], q, by simp [hlt]⟩, by omega, Pv (i + 1), fun acc' H' p' => ⟨xs.length - (i + 1), by omega, rfl, hlt, p'⟩, fun x H' y => ?_⟩
    obtain ⟨e, y⟩ := y
    subst e
    exact hs i x acc _ (y xs q) p
  · have e : i = xs.length := by omega
    subst e
    exact .inl ⟨⟨xs, q, Nat.le_refl _⟩, by omega, hd acc H p⟩
end L2

set_option Elab.async false
set_option linter.all false
set_option maxRecDepth 100000
set_option maxHeartbeats 4000000
namespace L2
open PySem PySem.Spec PyProof.Rows
def SIter (t : Bool) (h : Heap) (it l : Addr) (k : Nat) : Prop := if t = true then h.IsTupleIter it l k else h.IsListIter it l k
def SSeq (t : Bool) (h : Heap) (l : Addr) (xs : Array Value) : Prop := if t = true then h.IsTuple l xs else h.IsList l xs
theorem SIter.obj {t : Bool} {h : Heap} {it l : Addr} {k : Nat} (x : SIter t h it l k) : ∃ o, h.get? it = some o ∧ ∀ v, o.data ≠ .cell v := by
  cases t
  · obtain ⟨o, e, _, d⟩ := (show h.IsListIter it l k from x); exact ⟨o, e, fun v z => by rw [d] at z; cases z⟩
  · obtain ⟨o, e, _, d⟩ := (show h.IsTupleIter it l k from x); exact ⟨o, e, fun v z => by rw [d] at z; cases z⟩
theorem SIter.to {t : Bool} {h h' : Heap} {it l : Addr} {k : Nat} (x : SIter t h it l k) (e : ∀ o, h.get? it = some o → h'.get? it = some o) : SIter t h' it l k := by
  cases t
  · obtain ⟨o, a, r⟩ := (show h.IsListIter it l k from x); exact ⟨o, e o a, r⟩
  · obtain ⟨o, a, r⟩ := (show h.IsTupleIter it l k from x); exact ⟨o, e o a, r⟩
theorem SSeq.to {t : Bool} {h h' : Heap} {l : Addr} {xs : Array Value} (x : SSeq t h l xs) (e : ∀ o, h.get? l = some o → h'.get? l = some o) : SSeq t h' l xs := by
  cases t
  · obtain ⟨o, a, r⟩ := (show h.IsList l xs from x); exact ⟨o, e o a, r⟩
  · obtain ⟨o, a, r⟩ := (show h.IsTuple l xs from x); exact ⟨o, e o a, r⟩
section
variable {prog : Program} {w : World} {A : Around} {E : Value → Shared → Prop} {s : Shared}
theorem nextOf_tup {it l : Addr} {i : Nat} {items : Array Value} {x : Value} {Q : Value → Shared → Prop} (hit : s.heap.IsTupleIter it l i) (hl : s.heap.IsTuple l items) (hx : items[i]? = some x)
    (hQ : ∀ h', h'.IsTupleIter it l (i + 1) → Heap.SameBut it s.heap h' → Q x { s with heap := h' }) : wpAny (model prog w) A (Builtin.SmallTypes.nextOf (.ref it)) Q E s := by
  obtain ⟨o, ho, hc, hd⟩ := id hit; obtain ⟨ol, hol, _, nl, hdl⟩ := hl
  unfold Builtin.SmallTypes.nextOf
  refine wpAny_bind (wpAny_callSpecial?_slot (name := Str.ofString "__next__") hit.typeIs F.slot_tuple_iterator_next (wpAny_call_entry F.slot_tuple_iterator_next hit.typeIs F.entry_tuple_iterator_next ?_ (F.args_tuple_iterator_next_1 _)))
  show wpAny _ _ (field (.ref it) 0 >>= _) _ _ s; refine wpAny_bind (wpAny_field ho hd (x := .ref l) rfl ?_)
  show wpAny _ _ (if (Value.ref l == Value.none) = true then _ else _) _ _ s; rw [if_neg (show ¬ ((Value.ref l == Value.none) = true) from Bool.false_ne_true)]
  show wpAny _ _ (field (.ref it) 1 >>= _) _ _ s; refine wpAny_bind (wpAny_field ho hd (x := .int i 0) rfl ?_)
  show wpAny _ _ (seqItems? (.ref l) >>= _) _ _ s; refine wpAny_bind (wpAny_seqItems hol hdl ?_); simp only [Int.toNat_natCast, hx]
  exact wpAny_bind (wpAny_setField ho hd (by simp) (wpAny_pure ⟨x, rfl, wpAny_pure (hQ _ ⟨_, Heap.get?_update_self _ ho (Obj.isFreed_of_fields (Obj.data_mapFields hd _)), (Obj.cls_mapFields ..).trans hc, by rw [Obj.data_mapFields hd]; simp [rawInt]⟩ (Heap.SameBut.update ..))⟩))
theorem nextOf_tupE {it l : Addr} {i : Nat} {items : Array Value} {Q : Value → Shared → Prop} (hh : A.handled = none) (hit : s.heap.IsTupleIter it l i) (hl : s.heap.IsTuple l items) (hx : items[i]? = none)
    (hE : ∀ h' e, Heap.ExtBut it s.heap h' → (∃ o, h'.get? e = some o ∧ o.cls = .type "StopIteration") → E (.ref e) { s with heap := h' }) : wpAny (model prog w) A (Builtin.SmallTypes.nextOf (.ref it)) Q E s := by
  obtain ⟨o, ho, hc, hd⟩ := id hit; obtain ⟨ol, hol, _, nl, hdl⟩ := hl
  unfold Builtin.SmallTypes.nextOf
  refine wpAny_bind (wpAny_callSpecial?_slot (name := Str.ofString "__next__") hit.typeIs F.slot_tuple_iterator_next (wpAny_call_entry F.slot_tuple_iterator_next hit.typeIs F.entry_tuple_iterator_next ?_ (F.args_tuple_iterator_next_1 _)))
  show wpAny _ _ (field (.ref it) 0 >>= _) _ _ s; refine wpAny_bind (wpAny_field ho hd (x := .ref l) rfl ?_)
  show wpAny _ _ (if (Value.ref l == Value.none) = true then _ else _) _ _ s; rw [if_neg (show ¬ ((Value.ref l == Value.none) = true) from Bool.false_ne_true)]
  show wpAny _ _ (field (.ref it) 1 >>= _) _ _ s; refine wpAny_bind (wpAny_field ho hd (x := .int i 0) rfl ?_)
  show wpAny _ _ (seqItems? (.ref l) >>= _) _ _ s; refine wpAny_bind (wpAny_seqItems hol hdl ?_); simp only [Int.toNat_natCast, hx]
  refine wpAny_bind (wpAny_rule (wpAny_bind (wpAny_setField ho hd (by simp) ?_))); show wpAny _ _ (newExc (.type "StopIteration") [] >>= _) _ _ _
  refine wpAny_bind ?_; simp only [newExc, newTuple]; refine wpAny_bind (wpAny_newObj_type ?_ (by size_fits))
  refine wpAny_bind (m := firstArgMember _ _) (wpAny_of_eq (a := Value.none) (by first | rfl | (simp only [firstArgMember]; rfl)) ?_); refine wpAny_newObj_type ?_ (by size_fits); simp only [raiseNew]
  refine wpAny_bind (wpAny_handled ?_); first | rw [show A.in1.handled = none from hh] | rw [hh]
  refine wpAny_bind (wpAny_pure (wpAny_throw ?_)); exact hE _ _ (((Heap.SameBut.update ..).extBut.push _).push _) ⟨_, Heap.get?_push_size _ rfl, rfl⟩
theorem nextOf_s {t : Bool} {it l : Addr} {i : Nat} {items : Array Value} {x : Value} {Q : Value → Shared → Prop} (hit : SIter t s.heap it l i) (hl : SSeq t s.heap l items) (hx : items[i]? = some x)
    (hQ : ∀ h', SIter t h' it l (i + 1) → Heap.SameBut it s.heap h' → Q x { s with heap := h' }) : wpAny (model prog w) A (Builtin.SmallTypes.nextOf (.ref it)) Q E s := by
  cases t
  · exact wpAny_nextOf_list_item hit hl hx hQ
  · exact nextOf_tup hit hl hx hQ
theorem nextOf_sE {t : Bool} {it l : Addr} {i : Nat} {items : Array Value} {Q : Value → Shared → Prop} (hh : A.handled = none) (hit : SIter t s.heap it l i) (hl : SSeq t s.heap l items) (hx : items[i]? = none)
    (hE : ∀ h' e, Heap.ExtBut it s.heap h' → (∃ o, h'.get? e = some o ∧ o.cls = .type "StopIteration") → E (.ref e) { s with heap := h' }) : wpAny (model prog w) A (Builtin.SmallTypes.nextOf (.ref it)) Q E s := by
  cases t
  · exact wpAny_nextOf_list_end hh hit hl hx hE
  · exact nextOf_tupE hh hit hl hx hE
theorem zipS_item {t1 t2 : Bool} {z TI TO i1 i2 l1 l2 : Addr} {k1 k2 : Nat} {xs ys : Array Value} {x y a b : Value} {Q : Value → Shared → Prop} (D : ZipApart z TI TO i1 i2 l1 l2)
    (hz : IsZip s.heap z TI TO .none) (hTI : IsPair s.heap TI (.ref i1) (.ref i2)) (hTO : IsPair s.heap TO a b)
    (h1 : SIter t1 s.heap i1 l1 k1) (h2 : SIter t2 s.heap i2 l2 k2) (hl1 : SSeq t1 s.heap l1 xs) (hl2 : SSeq t2 s.heap l2 ys) (hx : xs[k1]? = some x) (hy : ys[k2]? = some y)
    (hQ : ∀ h', IsZip h' z TI TO (rawInt s.heap.objs.size) → IsPair h' TO x y → SIter t1 h' i1 l1 (k1 + 1) → SIter t2 h' i2 l2 (k2 + 1) → IsPair h' s.heap.objs.size x y → h'.objs.size = s.heap.objs.size + 1 →
      (∀ c o, c ≠ z → c ≠ TO → c ≠ i1 → c ≠ i2 → s.heap.get? c = some o → h'.get? c = some o) → Q (.ref s.heap.objs.size) { s with heap := h' }) :
    wpAny (model prog w) A (Builtin.«zip.__next__» ⟨[.ref z], []⟩) (fun fin s' => ∃ v, fin = .done (.ret v) ∧ Q v s') E s := by
  show wpAny _ _ (field (.ref z) 2 >>= _) _ _ _; refine wpAny_bind (wpAny_field hz rfl (x := .bool false) rfl ?_)
  show wpAny _ _ (field (.ref z) 3 >>= _) _ _ _; refine wpAny_bind (wpAny_field hz rfl (x := .ref TI) rfl ?_); refine wpAny_bind (wpAny_seqItems hTI rfl ?_)
  show wpAny _ _ (Builtin.SmallTypes.ownedTupleIsFree (.ref z) >>= _) _ _ _; refine wpAny_bind ?_; unfold Builtin.SmallTypes.ownedTupleIsFree
  refine wpAny_bind (wpAny_field hz rfl (x := .none) rfl (wpAny_pure ?_)); simp only [if_true]; refine wpAny_bind (wpAny_rule ?_)
  refine wpAny_bind (wpAny_field hz rfl (x := .ref TO) rfl ?_); refine wpAny_bind (wpAny_setField_rec hz (by simp) fun q1 hz₁ s1 => ?_); replace hz₁ : IsZip q1 z TI TO .ellipsis := hz₁
  refine wpAny_bind ?_; simp only [List.zipIdx_cons, List.zipIdx_nil, List.forIn_cons, List.forIn_nil]
  refine wpAny_bind (wpAny_bind (wpAny_onRaise ?_)); show wpAny _ _ (Builtin.SmallTypes.nextOf (.ref i1) >>= _) _ _ _
  refine wpAny_bind (nextOf_s (h1.to fun o e => s1.extBut _ _ D.i1z e) (hl1.to fun o e => s1.extBut _ _ D.l1z e) hx fun q2 a2 s2 => wpAny_pure ?_)
  have b2 : IsPair q2 TO a b := s2.extBut _ _ D.TOi1 (s1.extBut _ _ D.TOz hTO)
  refine wpAny_bind (wpAny_seqItems b2 rfl ?_); refine wpAny_bind (wpAny_updateSeq_pair b2 fun q3 b3 s3 => ?_); replace b3 : IsPair q3 TO x b := b3
  refine wpAny_bind (wpAny_letGo (wpAny_pure ?_)); refine wpAny_bind (wpAny_bind (wpAny_onRaise ?_)); show wpAny _ _ (Builtin.SmallTypes.nextOf (.ref i2) >>= _) _ _ _
  refine wpAny_bind (nextOf_s (h2.to fun o e => s3.extBut _ _ D.TOi2.symm (s2.extBut _ _ D.i12.symm (s1.extBut _ _ D.i2z e))) (hl2.to fun o e => s3.extBut _ _ D.l2TO (s2.extBut _ _ D.l2i1 (s1.extBut _ _ D.l2z e))) hy fun q4 a4 s4 => wpAny_pure ?_)
  have b4 : IsPair q4 TO x b := s4.extBut _ _ D.TOi2 b3
  refine wpAny_bind (wpAny_seqItems b4 rfl ?_); refine wpAny_bind (wpAny_updateSeq_pair b4 fun q5 b5 s5 => ?_); replace b5 : IsPair q5 TO x y := b5
  refine wpAny_bind (wpAny_letGo (wpAny_pure (wpAny_pure ?_))); refine wpAny_bind (wpAny_seqItems b5 rfl ?_); refine wpAny_bind (wpAny_newTuple ?_)
  have hsz : q5.objs.size = s.heap.objs.size := by rw [s5.1, s4.1, s3.1, s2.1, s1.1]
  have z5 : IsZip q5 z TI TO .ellipsis := s5.extBut _ _ D.TOz.symm (s4.extBut _ _ D.i2z.symm (s3.extBut _ _ D.TOz.symm (s2.extBut _ _ D.i1z.symm hz₁)))
  have k5 : ∀ c o, c ≠ z → c ≠ TO → c ≠ i1 → c ≠ i2 → s.heap.get? c = some o → q5.get? c = some o := fun c o c1 c2 c3 c4 e => s5.extBut _ _ c2 (s4.extBut _ _ c4 (s3.extBut _ _ c2 (s2.extBut _ _ c3 (s1.extBut _ _ c1 e))))
  have d1 : SIter t1 q5 i1 l1 (k1 + 1) := a2.to fun o e => s5.extBut _ _ D.TOi1.symm (s4.extBut _ _ D.i12 (s3.extBut _ _ D.TOi1.symm e))
  have d2 : SIter t2 q5 i2 l2 (k2 + 1) := a4.to fun o e => s5.extBut _ _ D.TOi2.symm e
  have zlt : z < q5.objs.size := Heap.lt_size z5
  show wpAny _ _ (Builtin.SmallTypes.ownedTupleHandOut (.ref z) (.ref q5.objs.size) >>= _) _ _ _; refine wpAny_bind ?_; unfold Builtin.SmallTypes.ownedTupleHandOut
  have z6 : IsZip (q5.push { cls := .type "tuple", data := .seq #[x, y] }) z TI TO .ellipsis := Heap.get?_push_of_some _ z5
  refine wpAny_bind (wpAny_setField_rec z6 (by simp) fun q7 z7 s7 => ?_); replace z7 : IsZip q7 z TI TO (rawInt q5.objs.size) := z7
  refine wpAny_setField_rec z7 (by simp) fun q8 z8 s8 => ?_; replace z8 : IsZip q8 z TI TO (rawInt q5.objs.size) := z8
  have up : ∀ c o, c ≠ z → q5.get? c = some o → q8.get? c = some o := fun c o c1 e => s8.extBut _ _ c1 (s7.extBut _ _ c1 (Heap.get?_push_of_some _ e))
  have t8 : IsPair q8 q5.objs.size x y := s8.extBut _ _ (Nat.ne_of_gt zlt) (s7.extBut _ _ (Nat.ne_of_gt zlt) (Heap.get?_push_size _ rfl))
  have n8 : q8.objs.size = q5.objs.size + 1 := by rw [s8.1, s7.1, Heap.size_push]
  rw [hsz] at z8 t8 n8; refine wpAny_pure ⟨_, rfl, ?_⟩; show Q (.ref q5.objs.size) _; rw [hsz]
  exact hQ q8 z8 (up _ _ D.TOz b5) (d1.to fun o e => up _ o D.i1z e) (d2.to fun o e => up _ o D.i2z e) t8 n8 fun c o c1 c2 c3 c4 e => up c o c1 (k5 c o c1 c2 c3 c4 e)
theorem zipS_end {t1 t2 : Bool} {z TI TO i1 i2 l1 l2 : Addr} {k1 k2 : Nat} {xs ys : Array Value} {a b : Value} {Q : Fin → Shared → Prop} (hh : A.handled = none) (D : ZipApart z TI TO i1 i2 l1 l2)
    (hz : IsZip s.heap z TI TO .none) (hTI : IsPair s.heap TI (.ref i1) (.ref i2)) (hTO : IsPair s.heap TO a b)
    (h1 : SIter t1 s.heap i1 l1 k1) (h2 : SIter t2 s.heap i2 l2 k2) (hl1 : SSeq t1 s.heap l1 xs) (hl2 : SSeq t2 s.heap l2 ys) (hend : xs[k1]? = none ∨ ys[k2]? = none)
    (hE : ∀ h' e, (∀ c o, c ≠ z → c ≠ TO → c ≠ i1 → c ≠ i2 → s.heap.get? c = some o → h'.get? c = some o) → (∃ o, h'.get? e = some o ∧ o.cls = .type "StopIteration") → E (.ref e) { s with heap := h' }) :
    wpAny (model prog w) A (Builtin.«zip.__next__» ⟨[.ref z], []⟩) Q E s := by
  show wpAny _ _ (field (.ref z) 2 >>= _) _ _ _; refine wpAny_bind (wpAny_field hz rfl (x := .bool false) rfl ?_)
  show wpAny _ _ (field (.ref z) 3 >>= _) _ _ _; refine wpAny_bind (wpAny_field hz rfl (x := .ref TI) rfl ?_); refine wpAny_bind (wpAny_seqItems hTI rfl ?_)
  show wpAny _ _ (Builtin.SmallTypes.ownedTupleIsFree (.ref z) >>= _) _ _ _; refine wpAny_bind ?_; unfold Builtin.SmallTypes.ownedTupleIsFree
  refine wpAny_bind (wpAny_field hz rfl (x := .none) rfl (wpAny_pure ?_)); simp only [if_true]; refine wpAny_bind (wpAny_rule ?_)
  refine wpAny_bind (wpAny_field hz rfl (x := .ref TO) rfl ?_); refine wpAny_bind (wpAny_setField_rec hz (by simp) fun q1 hz₁ s1 => ?_); replace hz₁ : IsZip q1 z TI TO .ellipsis := hz₁
  refine wpAny_bind ?_; simp only [List.zipIdx_cons, List.zipIdx_nil, List.forIn_cons, List.forIn_nil]
  refine wpAny_bind (wpAny_bind (wpAny_onRaise ?_)); show wpAny _ _ (Builtin.SmallTypes.nextOf (.ref i1) >>= _) _ _ _
  cases hx : xs[k1]? with
  | none =>
    refine wpAny_bind (nextOf_sE hh (h1.to fun o e => s1.extBut _ _ D.i1z e) (hl1.to fun o e => s1.extBut _ _ D.l1z e) hx fun q2 e s2 he => ?_)
    obtain ⟨oe, hoe, hce⟩ := he
    have z2 : IsZip q2 z TI TO .ellipsis := s2 _ _ D.i1z.symm hz₁
    have ez : e ≠ z := fun x => by subst x; rw [z2] at hoe; cases hoe; simp at hce
    exact wpAny_setField_rec z2 (by simp) fun q3 _ s3 => hE q3 e (fun c o c1 _ c3 _ x => s3.extBut _ _ c1 (s2 _ _ c3 (s1.extBut _ _ c1 x))) ⟨oe, s3.extBut _ _ ez hoe, hce⟩
  | some x =>
    have hy : ys[k2]? = none := by rcases hend with h | h; rw [hx] at h; cases h; exact h
    refine wpAny_bind (nextOf_s (h1.to fun o e => s1.extBut _ _ D.i1z e) (hl1.to fun o e => s1.extBut _ _ D.l1z e) hx fun q2 a2 s2 => wpAny_pure ?_)
    have b2 : IsPair q2 TO a b := s2.extBut _ _ D.TOi1 (s1.extBut _ _ D.TOz hTO)
    refine wpAny_bind (wpAny_seqItems b2 rfl ?_); refine wpAny_bind (wpAny_updateSeq_pair b2 fun q3 b3 s3 => ?_)
    refine wpAny_bind (wpAny_letGo (wpAny_pure ?_)); refine wpAny_bind (wpAny_bind (wpAny_onRaise ?_)); show wpAny _ _ (Builtin.SmallTypes.nextOf (.ref i2) >>= _) _ _ _
    refine wpAny_bind (nextOf_sE hh (h2.to fun o e => s3.extBut _ _ D.TOi2.symm (s2.extBut _ _ D.i12.symm (s1.extBut _ _ D.i2z e))) (hl2.to fun o e => s3.extBut _ _ D.l2TO (s2.extBut _ _ D.l2i1 (s1.extBut _ _ D.l2z e))) hy fun q4 e s4 he => ?_)
    obtain ⟨oe, hoe, hce⟩ := he
    have z4 : IsZip q4 z TI TO .ellipsis := s4 _ _ D.i2z.symm (s3.extBut _ _ D.TOz.symm (s2.extBut _ _ D.i1z.symm hz₁))
    have ez : e ≠ z := fun x => by subst x; rw [z4] at hoe; cases hoe; simp at hce
    exact wpAny_setField_rec z4 (by simp) fun q5 _ s5 => hE q5 e (fun c o c1 c2 c3 c4 x => s5.extBut _ _ c1 (s4 _ _ c4 (s3.extBut _ _ c2 (s2.extBut _ _ c3 (s1.extBut _ _ c1 x))))) ⟨oe, s5.extBut _ _ ez hoe, hce⟩
theorem pyNext_zipS {t1 t2 : Bool} {z TI TO i1 i2 l1 l2 : Addr} {k1 k2 : Nat} {xs ys : Array Value} {x y a b : Value} {Q : Option Value → Shared → Prop} (D : ZipApart z TI TO i1 i2 l1 l2)
    (hz : IsZip s.heap z TI TO .none) (hTI : IsPair s.heap TI (.ref i1) (.ref i2)) (hTO : IsPair s.heap TO a b)
    (h1 : SIter t1 s.heap i1 l1 k1) (h2 : SIter t2 s.heap i2 l2 k2) (hl1 : SSeq t1 s.heap l1 xs) (hl2 : SSeq t2 s.heap l2 ys) (hx : xs[k1]? = some x) (hy : ys[k2]? = some y)
    (hQ : ∀ h', IsZip h' z TI TO (rawInt s.heap.objs.size) → IsPair h' TO x y → SIter t1 h' i1 l1 (k1 + 1) → SIter t2 h' i2 l2 (k2 + 1) → IsPair h' s.heap.objs.size x y → h'.objs.size = s.heap.objs.size + 1 →
      (∀ c o, c ≠ z → c ≠ TO → c ≠ i1 → c ≠ i2 → s.heap.get? c = some o → h'.get? c = some o) → Q (some (.ref s.heap.objs.size)) { s with heap := h' }) :
    wpAny (model prog w) A (pyNext (.ref z)) Q E s := by
  have hT : s.TypeIs (.ref z) "zip" := ⟨_, hz, rfl⟩
  unfold pyNext
  exact wpAny_bind (wpAny_attempt (wpAny_callSpecial?_slot (name := Str.ofString "__next__") hT F.slot_zip_next (wpAny_call_entry F.slot_zip_next hT F.entry_zip_next (zipS_item D hz hTI hTO h1 h2 hl1 hl2 hx hy fun h' a1 a2 a3 a4 a5 a6 a7 => wpAny_pure (hQ h' a1 a2 a3 a4 a5 a6 a7)) (F.args_zip_next_1 _))))
theorem pyNext_zipSE {t1 t2 : Bool} {z TI TO i1 i2 l1 l2 : Addr} {k1 k2 : Nat} {xs ys : Array Value} {a b : Value} {Q : Option Value → Shared → Prop} (hh : A.handled = none) (D : ZipApart z TI TO i1 i2 l1 l2)
    (hz : IsZip s.heap z TI TO .none) (hTI : IsPair s.heap TI (.ref i1) (.ref i2)) (hTO : IsPair s.heap TO a b)
    (h1 : SIter t1 s.heap i1 l1 k1) (h2 : SIter t2 s.heap i2 l2 k2) (hl1 : SSeq t1 s.heap l1 xs) (hl2 : SSeq t2 s.heap l2 ys) (hend : xs[k1]? = none ∨ ys[k2]? = none)
    (hQ : ∀ h', (∀ c o, c ≠ z → c ≠ TO → c ≠ i1 → c ≠ i2 → s.heap.get? c = some o → h'.get? c = some o) → Q none { s with heap := h' }) : wpAny (model prog w) A (pyNext (.ref z)) Q E s := by
  have hT : s.TypeIs (.ref z) "zip" := ⟨_, hz, rfl⟩
  unfold pyNext
  refine wpAny_bind (wpAny_attempt (wpAny_callSpecial?_slot (name := Str.ofString "__next__") hT F.slot_zip_next (wpAny_call_entry F.slot_zip_next hT F.entry_zip_next (zipS_end hh D hz hTI hTO h1 h2 hl1 hl2 hend fun h' e hk he => ?_) (F.args_zip_next_1 _))))
  obtain ⟨o, ho, hc⟩ := he
  exact wpAny_bind (wpAny_isInstance (T := "StopIteration") (b := true) ⟨o, ho, hc⟩ isSubtype_stop (wpAny_pure (hQ _ hk)))
end
abbrev itName (t : Bool) : String := if t = true then "tuple_iterator" else "list_iterator"
abbrev zq1 (t1 : Bool) (h : Heap) (l1 : Addr) : Heap := h.push { cls := .type (itName t1), data := .fields #[.ref l1, .int 0 0] }
abbrev zq2 (t1 t2 : Bool) (h : Heap) (l1 l2 : Addr) : Heap := (zq1 t1 h l1).push { cls := .type (itName t2), data := .fields #[.ref l2, .int 0 0] }
abbrev zq3 (t1 t2 : Bool) (h : Heap) (l1 l2 : Addr) : Heap := (zq2 t1 t2 h l1 l2).push { cls := .type "tuple", data := .seq #[.ref h.objs.size, .ref (zq1 t1 h l1).objs.size] }
abbrev zq4 (t1 t2 : Bool) (h : Heap) (l1 l2 : Addr) : Heap := (zq3 t1 t2 h l1 l2).push { cls := .type "tuple", data := .seq #[.none, .none] }
abbrev zq5 (t1 t2 : Bool) (h : Heap) (l1 l2 : Addr) : Heap := (zq4 t1 t2 h l1 l2).push { cls := .type "zip", data := .fields #[.none, .bool false, .bool false, .ref (zq2 t1 t2 h l1 l2).objs.size, .ref (zq3 t1 t2 h l1 l2).objs.size] }
theorem pyIter_s {prog : Program} {w : World} {A : Around} {E : Value → Shared → Prop} {s : Shared} {t : Bool} {l : Addr} {xs : Array Value} {Q : Value → Shared → Prop} (hl : SSeq t s.heap l xs)
    (hQ : Q (.ref s.heap.objs.size) { s with heap := zq1 t s.heap l }) : wpAny (model prog w) A (pyIter (.ref l)) Q E s := by
  cases t
  · exact wpAny_pyIter_list hl hQ
  · exact wpAny_pyIter_tuple hl hQ
theorem zipS_new (t1 t2 : Bool) (l1 l2 : Addr) (xs ys : Array Value) :
    Meets (Builtin.«zip.__new__» ⟨[.type "zip", .ref l1, .ref l2], []⟩) (fun _ R s => SSeq t1 s.heap l1 xs ∧ SSeq t2 s.heap l2 ys ∧ R (.ok (.ret (.ref (zq4 t1 t2 s.heap l1 l2).objs.size))) { s with heap := zq5 t1 t2 s.heap l1 l2 }) :=
  .of_wp fun prog w A R s h => by
    obtain ⟨hp, g, d, tk, os⟩ := s
    obtain ⟨hl1, hl2, h⟩ := h
    have hsub := sub_zip
    have hL1 : SSeq t1 (Shared.heap ⟨hp, g, d, tk, os⟩) l1 xs := hl1
    have hL2 : SSeq t2 (Shared.heap ⟨zq1 t1 hp l1, g, d, tk, os⟩) l2 ys := hl2.to fun o e => Heap.get?_push_of_some _ e
    wp_walk using pyIter_s hL1, pyIter_s hL2
    exact ⟨_, rfl, h⟩
theorem call_zipS {prog : Program} {w : World} {A : Around} {E : Value → Shared → Prop} {s : Shared} {t1 t2 : Bool} {l1 l2 : Addr} {xs ys : Array Value} {Q : Value → Shared → Prop} (hl1 : SSeq t1 s.heap l1 xs) (hl2 : SSeq t2 s.heap l2 ys)
    (h : ∀ h', IsZip h' (s.heap.objs.size + 4) (s.heap.objs.size + 2) (s.heap.objs.size + 3) .none → IsPair h' (s.heap.objs.size + 2) (.ref s.heap.objs.size) (.ref (s.heap.objs.size + 1)) →
      IsPair h' (s.heap.objs.size + 3) .none .none → SIter t1 h' s.heap.objs.size l1 0 → SIter t2 h' (s.heap.objs.size + 1) l2 0 → (∀ c o, s.heap.get? c = some o → h'.get? c = some o) → Q (.ref (s.heap.objs.size + 4)) { s with heap := h' }) :
    wpAny (model prog w) A (call (.type "zip") [.ref l1, .ref l2]) Q E s := by
  refine callType_new F.called_zip (by decide) (F.typeCall_zip_2 _ _) (F.newCall_zip_2 _ _) (fun obj => F.args_object_init_3 obj _ _) F.entry_zip_new (zipS_new t1 t2 l1 l2 xs ys) ⟨hl1, hl2, ?_⟩
  have z1 : (zq1 t1 s.heap l1).objs.size = s.heap.objs.size + 1 := Heap.size_push ..
  have z2 : (zq2 t1 t2 s.heap l1 l2).objs.size = s.heap.objs.size + 2 := by rw [Heap.size_push, z1]
  have z3 : (zq3 t1 t2 s.heap l1 l2).objs.size = s.heap.objs.size + 3 := by rw [Heap.size_push, z2]
  have z4 : (zq4 t1 t2 s.heap l1 l2).objs.size = s.heap.objs.size + 4 := by rw [Heap.size_push, z3]
  have g5 : (zq5 t1 t2 s.heap l1 l2).get? (zq4 t1 t2 s.heap l1 l2).objs.size = some _ := Heap.get?_push_size _ rfl
  have g4 : (zq5 t1 t2 s.heap l1 l2).get? (zq3 t1 t2 s.heap l1 l2).objs.size = some _ := Heap.get?_push_of_some _ (Heap.get?_push_size _ rfl)
  have g3 : (zq5 t1 t2 s.heap l1 l2).get? (zq2 t1 t2 s.heap l1 l2).objs.size = some _ := Heap.get?_push_of_some _ (Heap.get?_push_of_some _ (Heap.get?_push_size _ rfl))
  have g2 : (zq5 t1 t2 s.heap l1 l2).get? (zq1 t1 s.heap l1).objs.size = some _ := Heap.get?_push_of_some _ (Heap.get?_push_of_some _ (Heap.get?_push_of_some _ (Heap.get?_push_size _ rfl)))
  have g1 : (zq5 t1 t2 s.heap l1 l2).get? s.heap.objs.size = some _ := Heap.get?_push_of_some _ (Heap.get?_push_of_some _ (Heap.get?_push_of_some _ (Heap.get?_push_of_some _ (Heap.get?_push_size _ rfl))))
  show _ ∧ _
  rw [z2, z3, z4] at g5; rw [z1, z2] at g3; rw [z3] at g4; rw [z1] at g2; rw [z4]
  refine ⟨⟨_, g5, rfl⟩, h _ g5 g3 g4 ?_ ?_ fun c o x => Heap.get?_push_of_some _ (Heap.get?_push_of_some _ (Heap.get?_push_of_some _ (Heap.get?_push_of_some _ (Heap.get?_push_of_some _ x))))⟩
  · cases t1 <;> exact ⟨_, g1, rfl, rfl⟩
  · cases t2 <;> exact ⟨_, g2, rfl, rfl⟩
section
variable {prog : Program} {w : World} {A : Around} {R : Result → Shared → Prop} {I : Addr} {fp wr : List Addr} {n : Nat} {P : Nat → Value → Prop} {St : Nat → Heap → Prop}
theorem maxK_loop (kw : List (Str × Value)) (W : Walks prog w A.in1 I fp wr n P St) (bt : Nat → Nat → Bool) (hcmp : CmpOf prog w A.in1 .Gt P bt) (S : Addr) (hSf : S ∉ fp) :
    ∀ (k j : Nat) (s : Shared) (vb : Value) (c : Nat), n - (j + 1) = k → j + 1 ≤ n → St (j + 1) s.heap → P (argBest bt j) vb → s.heap.get? S = some { cls := .type "list", dict := none, data := .seq #[vb, vb] c, slots := #[] } →
    (∀ v h' tk, P (argBest bt (n - 1)) v → (∀ b o, b ∉ wr → b ≠ S → s.heap.get? b = some o → h'.get? b = some o) → R (.ok (.ret v)) { s with heap := h', toks := tk }) →
    codeAny (model prog w) A (.builtin "max.loop" ⟨[.ref I, .none, .ref S], kw⟩) R s := by
  have hSw : S ∉ wr := fun h => hSf (W.sub _ h)
  have hname : (toString "max" ++ toString ".loop" : String) = "max.loop" := by decide
  intro k
  induction k with
  | zero =>
    intro j s vb c hk hj hst hPb hS hR
    have hin : j + 1 = n := by omega
    refine codeAny_builtin F.entry_max_loop ?_; rw [Around.under_plainId F.plain_max_loop _]
    show wpAny _ A.in1 (seqItems? (.ref S) >>= _) _ _ s; refine wpAny_bind (wpAny_seqItems hS rfl ?_)
    show wpAny _ A.in1 (tryCatch (pyNext (.ref I)) _ >>= _) _ _ s; refine wpAny_bind (wpAny_tryCatch (W.done s _ _ (hin ▸ hst) fun h' tk hk' => ?_))
    have hS' := hk' S _ hSw hS
    show wpAny _ A.in1 (updateSeq S (fun _ => #[]) >>= _) _ _ _; refine wpAny_bind ?_; refine wpAny_updateSeq hS' rfl (wpAny_bind (wpAny_letGo (wpAny_pure ?_)))
    exact hR vb _ tk (by rw [← hin]; exact hPb) fun b o hbw hbS e => (Heap.get?_update_other _ _ (Ne.symm hbS)).trans (hk' b o hbw e)
  | succ k ih =>
    intro j s vb c hk hj hst hPb hS hR
    have hlt : j + 1 < n := by omega
    refine codeAny_builtin F.entry_max_loop ?_; rw [Around.under_plainId F.plain_max_loop _]
    show wpAny _ A.in1 (seqItems? (.ref S) >>= _) _ _ s; refine wpAny_bind (wpAny_seqItems hS rfl ?_)
    show wpAny _ A.in1 (tryCatch (pyNext (.ref I)) _ >>= _) _ _ s; refine wpAny_bind (wpAny_tryCatch (W.item (j + 1) s _ _ hlt hst fun v h' tk hP hst' hk' => ?_))
    have hS' := hk' S _ hSw hS
    show wpAny _ A.in1 (tryCatch (holding [v, v] (richCompare .Gt v vb >>= _)) _ >>= _) _ _ _; refine wpAny_bind (wpAny_tryCatch (wpAny_holding (wpAny_bind (hcmp (j + 1) (argBest bt j) v vb _ _ _ hP hPb ?_))))
    refine wpAny_bind (wpAny_holding (wpAny_truthy_bool ?_)); refine wpAny_bind (wpAny_letGo (wpAny_pure ?_))
    cases hb : bt (j + 1) (argBest bt j) with
    | true =>
      simp only [if_true]; refine wpAny_bind ?_; refine wpAny_updateSeq hS' rfl (wpAny_bind (wpAny_letGo ?_)); rw [hname]
      refine wpAny_pure ⟨plainId_quiet F.plain_max_loop _, ih (j + 1) _ v _ (by omega) hlt (W.frame _ _ _ hst' fun b hbf o e => ?_) (by simp only [argBest, hb, if_true]; exact hP) (Heap.get?_update_self _ hS' rfl) fun v' h'' tk'' hP' hk'' => ?_⟩
      · exact (Heap.get?_update_other _ _ (fun h : S = b => hSf (by rw [h]; exact hbf))).trans e
      · exact hR v' h'' tk'' hP' fun b o hbw hbS e => hk'' b o hbw hbS ((Heap.get?_update_other _ _ (Ne.symm hbS)).trans (hk' b o hbw e))
    | false =>
      simp only [Bool.false_eq_true, if_false]; refine wpAny_bind (wpAny_letGo ?_); rw [hname]
      refine wpAny_pure ⟨plainId_quiet F.plain_max_loop _, ih (j + 1) _ vb c (by omega) hlt hst' (by simp only [argBest, hb, Bool.false_eq_true, if_false]; exact hPb) hS' fun v' h'' tk'' hP' hk'' => ?_⟩
      exact hR v' h'' tk'' hP' fun b o hbw hbS e => hk'' b o hbw hbS (hk' b o hbw e)
theorem maxK_first (kw : List (Str × Value)) (W : Walks prog w A.in1 I fp wr n P St) (bt : Nat → Nat → Bool) (hcmp : CmpOf prog w A.in1 .Gt P bt) (S : Addr) (hSf : S ∉ fp) (hn : 0 < n) {s : Shared} {c : Nat} (hst : St 0 s.heap)
    (hS : s.heap.get? S = some { cls := .type "list", dict := none, data := .seq #[] c, slots := #[] })
    (hR : ∀ v h' tk, P (argBest bt (n - 1)) v → (∀ b o, b ∉ wr → b ≠ S → s.heap.get? b = some o → h'.get? b = some o) → R (.ok (.ret v)) { s with heap := h', toks := tk }) :
    codeAny (model prog w) A (.builtin "max.loop" ⟨[.ref I, .none, .ref S], kw⟩) R s := by
  have hSw : S ∉ wr := fun h => hSf (W.sub _ h)
  have hname : (toString "max" ++ toString ".loop" : String) = "max.loop" := by decide
  refine codeAny_builtin F.entry_max_loop ?_; rw [Around.under_plainId F.plain_max_loop _]
  show wpAny _ A.in1 (seqItems? (.ref S) >>= _) _ _ s; refine wpAny_bind (wpAny_seqItems hS rfl ?_)
  show wpAny _ A.in1 (tryCatch (pyNext (.ref I)) _ >>= _) _ _ s; refine wpAny_bind (wpAny_tryCatch (W.item 0 s _ _ hn hst fun v h' tk hP hst' hk' => ?_))
  have hS' := hk' S _ hSw hS
  show wpAny _ A.in1 (updateSeq S (fun _ => #[v, v]) >>= _) _ _ _; refine wpAny_bind ?_; refine wpAny_updateSeq hS' rfl ?_; rw [hname]
  refine wpAny_pure ⟨plainId_quiet F.plain_max_loop _, maxK_loop kw W bt hcmp S hSf _ 0 _ v _ rfl hn (W.frame _ _ _ hst' fun b hbf o e => ?_) hP (Heap.get?_update_self _ hS' rfl) fun v' h'' tk'' hP' hk'' => ?_⟩
  · exact (Heap.get?_update_other _ _ (fun h : S = b => hSf (by rw [h]; exact hbf))).trans e
  · exact hR v' h'' tk'' hP' fun b o hbw hbS e => hk'' b o hbw hbS ((Heap.get?_update_other _ _ (Ne.symm hbS)).trans (hk' b o hbw e))
theorem maxK_none {d : Value} {nm : Str} (W : Walks prog w A.in1 I fp wr 0 P St) (S : Addr) (hSf : S ∉ fp) {s : Shared} {c : Nat} (hst : St 0 s.heap)
    (hS : s.heap.get? S = some { cls := .type "list", dict := none, data := .seq #[] c, slots := #[] })
    (hR : ∀ h' tk, (∀ b o, b ∉ wr → s.heap.get? b = some o → h'.get? b = some o) → R (.ok (.ret d)) { s with heap := h', toks := tk }) :
    codeAny (model prog w) A (.builtin "max.loop" ⟨[.ref I, .none, .ref S], [(nm, d)]⟩) R s := by
  have hSw : S ∉ wr := fun h => hSf (W.sub _ h)
  refine codeAny_builtin F.entry_max_loop ?_; rw [Around.under_plainId F.plain_max_loop _]
  show wpAny _ A.in1 (seqItems? (.ref S) >>= _) _ _ s; refine wpAny_bind (wpAny_seqItems hS rfl ?_)
  show wpAny _ A.in1 (tryCatch (pyNext (.ref I)) _ >>= _) _ _ s; refine wpAny_bind (wpAny_tryCatch (W.done s _ _ hst fun h' tk hk' => ?_))
  refine wpAny_bind (wpAny_rule (wpAny_pure ?_))
  exact hR h' tk hk'
end
theorem args_maxD (a d : Value) : argsOk "max" ⟨[a], [(Str.ofString "default", d)]⟩ := by unfold argsOk; kernel_rfl

def Sq (t : Bool) (K : PySem.W.Frag) (H : Hp) (a : Addr) (xs : List V) : Prop := if t = true then SqT K H a xs else SqL K H a xs
theorem Inv.sseq {X : Cx} {pins : List (Addr × Obj)} {σ : St} {H : Hp} {s : Shared} {t : Bool} {a : Addr} {xs : List V} (I : Inv X pins σ H s) (h : Sq t X.K H a xs) : ∃ its : List Value, Vals xs its ∧ SSeq t s.heap a its.toArray ∧ xs.length ≤ sizeLine := by
  cases t
  · obtain ⟨its, r, p, z⟩ := I.list h
    exact ⟨its, r, p.isList, z⟩
  · obtain ⟨its, r, p, z⟩ := I.tuple h
    exact ⟨its, r, p, z⟩
theorem Inv.sseq_inj {X : Cx} {pins : List (Addr × Obj)} {σ : St} {H : Hp} {s : Shared} {t : Bool} {a : Addr} {xs ys : List V} (I : Inv X pins σ H s) (h : Sq t X.K H a xs) (h' : Sq t X.K H a ys) : xs = ys := by
  cases t
  · exact I.list_inj h h'
  · exact I.tuple_inj h h'
def Itz (t1 t2 : Bool) (K : PySem.W.Frag) (a b : Addr) : It :=
  ⟨fun i H => ∃ xs ys x y, Sq t1 K H a xs ∧ Sq t2 K H b ys ∧ xs[i]? = some x ∧ ys[i]? = some y,
   fun i H v H' => ∃ p x y, v = .ref p ∧ H p = none ∧ H' = upd H p (.tup [x, y]) ∧ ∀ xs ys, Sq t1 K H a xs → Sq t2 K H b ys → xs[i]? = some x ∧ ys[i]? = some y,
   fun i H => ∃ xs ys, Sq t1 K H a xs ∧ Sq t2 K H b ys ∧ (xs.length ≤ i ∨ ys.length ≤ i)⟩
section
variable {X : Cx} {pins : List (Addr × Obj)} {σ : St} {H : Hp} {s : Shared}
theorem Inv.turnedL {ch : List Addr} {h' : Heap} {t' : Nat} (I : Inv X pins σ H s) (hf : ∀ b ∈ ch, FpOk X pins H b) (k : ∀ b o, b ∉ ch → s.heap.get? b = some o → h'.get? b = some o) : Inv X pins σ H { s with heap := h', toks := t' } := by
  have nch : ∀ b u, H b = some u → b ∉ ch := fun b u e z => by rw [(hf b z).1] at e; cases e
  refine I.step (g' := s.gens) (d' := s.drawn) (ch := ch) (fun b hb => ⟨(hf b hb).2.2.2.1, (hf b hb).2.1, (hf b hb).2.2.2.2.1, (hf b hb).2.2.2.2.2⟩) (fun b o _ _ hc e _ => k b o hc e) (fun b o _ _ hc e _ => ⟨o.slots, k b o hc e⟩) (fun _ _ _ _ n => n)
    (fun b o hc e => ⟨o, k b o hc e⟩) (fun _ _ e => e) (fun _ _ _ e => e) (fun b ps e => ⟨#[], by rw [e]; simp⟩) (fun m hm => ?_) (fun b u e => ?_) I.bare
  · obtain ⟨o, es, ep, ho, r⟩ := hm
    exact ⟨o, es, ep, k _ o (fun z => (hf _ z).2.1 rfl) ho, r⟩
  · refine (I.hok b u e).stay (fun c v hc q => k c v ?_ q) (fun _ q => q) fun _ _ q => q
    rcases hc with z | z
    · rw [z]; exact nch b u e
    · exact nch c _ z
theorem Inv.turnedT {ch : List Addr} {h' : Heap} {t' : Nat} {T : Addr} {xs : List V} {its : List Value} (I : Inv X pins σ H s) (hf : ∀ b ∈ ch, FpOk X pins H b) (k : ∀ b o, b ∉ ch → s.heap.get? b = some o → h'.get? b = some o)
    (hT : s.heap.objs.size ≤ T) (r : Vals xs its) (hz : xs.length ≤ sizeLine) (e : IsTup h' T its.toArray) : Inv X pins σ (upd H T (.tup xs)) { s with heap := h', toks := t' } := by
  have nT : H T = none := I.hok.fresh hT
  have nch : ∀ b u, H b = some u → b ∉ ch := fun b u e z => by rw [(hf b z).1] at e; cases e
  have neT : ∀ b o, s.heap.get? b = some o → b ≠ T := fun b o e z => absurd (Nat.lt_of_lt_of_le (Heap.lt_size e) (by rw [z]; exact hT)) (Nat.lt_irrefl _)
  refine I.step (g' := s.gens) (d' := s.drawn) (ch := ch) (fun b hb => ⟨(hf b hb).2.2.2.1, (hf b hb).2.1, (hf b hb).2.2.2.2.1, (hf b hb).2.2.2.2.2⟩) (fun b o _ _ hc e _ => k b o hc e) (fun b o _ _ hc e _ => ⟨o.slots, k b o hc e⟩)
    (fun b o _ e n => by rw [upd_ne (neT b o e)]; exact n) (fun b o hc e => ⟨o, k b o hc e⟩) (fun b ys q => by rw [upd_ne (ne_of_none q nT)]; exact q) (fun b o u q => by rw [upd_ne (ne_of_none q nT)]; exact q)
    (fun b ps q => ⟨#[], by rw [upd_ne (ne_of_none q nT), q]; simp⟩) (fun m hm => ?_) (fun b u q => ?_) I.bare
  · obtain ⟨o, es, ep, ho, rr⟩ := hm
    exact ⟨o, es, ep, k _ o (fun z => (hf _ z).2.1 rfl) ho, rr⟩
  · by_cases hb : b = T
    · subst hb
      rw [upd_same] at q
      cases q
      exact ⟨hz, its, r, e⟩
    · rw [upd_ne hb] at q
      refine (I.hok b u q).stay (fun c v hc z => k c v ?_ z) (fun c z => by rw [upd_ne (ne_of_none z nT)]; exact z) fun c ys z => by rw [upd_ne (ne_of_none z nT)]; exact z
      rcases hc with z | z
      · rw [z]; exact nch b u q
      · exact nch c _ z
end
theorem turn_zip {P : Program} {w : World} {K : PySem.W.Frag} {es : List Expr} {kk : Nat} {tpos : Pos} {t1 t2 : Bool} {a b z TI TO i1 i2 : Addr} (D : ZipApart z TI TO i1 i2 a b) :
    Turn P w K (.Tuple es kk tpos) (Itz t1 t2 K a b) [z, TI, TO, i1, i2] z (fun i h => IsZip h z TI TO .none ∧ IsPair h TI (.ref i1) (.ref i2) ∧ (∃ u v, IsPair h TO u v) ∧ SIter t1 h i1 a i ∧ SIter t2 h i2 b i) where
  mem := by simp
  obj := fun i h st c hb => by
    obtain ⟨hz, hTI, ⟨u, v, hTO⟩, h1, h2⟩ := st
    simp only [List.mem_cons, List.not_mem_nil, or_false] at hb
    rcases hb with rfl | rfl | rfl | rfl | rfl
    · exact ⟨_, hz, fun v e => nomatch e⟩
    · exact ⟨_, hTI, fun v e => nomatch e⟩
    · exact ⟨_, hTO, fun v e => nomatch e⟩
    · exact h1.obj
    · exact h2.obj
  keep := fun i h h' st k => by
    obtain ⟨hz, hTI, ⟨u, v, hTO⟩, h1, h2⟩ := st
    exact ⟨k z (by simp) _ hz, k TI (by simp) _ hTI, ⟨u, v, k TO (by simp) _ hTO⟩, h1.to fun o e => k i1 (by simp) o e, h2.to fun o e => k i2 (by simp) o e⟩
  item := by
    intro X hP hw hK hc i pins s σ H E I hf st hg
    subst hP hw hK
    obtain ⟨xs, ys, x, y, q1, q2, e1, e2⟩ := hg
    obtain ⟨its1, r1, p1, z1⟩ := I.sseq q1
    obtain ⟨its2, r2, p2, z2⟩ := I.sseq q2
    obtain ⟨u1, eu1, ru1⟩ := r1.get e1
    obtain ⟨u2, eu2, ru2⟩ := r2.get e2
    obtain ⟨hz, hTI, ⟨u, v, hTO⟩, h1, h2⟩ := st
    have hf4 : ∀ c ∈ [z, TO, i1, i2], FpOk X pins H c := fun c hc => hf c (by simp only [List.mem_cons, List.not_mem_nil, or_false] at hc ⊢; rcases hc with rfl | rfl | rfl | rfl <;> simp)
    have lt : ∀ {c o}, s.heap.get? c = some o → s.heap.objs.size ≠ c := fun e => Nat.ne_of_gt (Heap.lt_size e)
    refine pyNext_zipS D hz hTI hTO h1 h2 p1 p2 (x := u1) (y := u2) (by simpa using eu1) (by simpa using eu2) fun h' a1 a2 a3 a4 a5 a6 hk => ?_
    refine ⟨_, rfl, wpAny_letOwnedTupleGo_zip a1 fun h'' b1 b2 => ?_⟩
    have b2' : Heap.SameBut z h' h'' := b2
    have kk : ∀ c o, c ∉ [z, TO, i1, i2] → s.heap.get? c = some o → h''.get? c = some o := fun c o hc e => by
      simp only [List.mem_cons, List.not_mem_nil, or_false, not_or] at hc
      exact b2'.extBut _ _ hc.1 (hk c o hc.1 hc.2.1 hc.2.2.1 hc.2.2.2 e)
    have tT : h''.get? s.heap.objs.size = some { cls := .type "tuple", data := .seq #[u1, u2] } := b2'.extBut _ _ (lt hz) a5
    have nT : H s.heap.objs.size = none := I.hok.fresh (Nat.le_refl _)
    have I' : Inv X pins σ (upd H s.heap.objs.size (.tup [x, y])) { s with heap := h'' } := I.turnedT (t' := s.toks) (its := [u1, u2]) hf4 kk (Nat.le_refl _) (.cons ru1 (.cons ru2 .nil)) (by show 2 ≤ sizeLine; decide) ⟨_, tT, rfl, _, rfl⟩
    refine ⟨.ref s.heap.objs.size, upd H s.heap.objs.size (.tup [x, y]), I', rfl,
      ⟨_, x, y, rfl, nT, rfl, fun xs' ys' w1 w2 => ⟨by rw [I.sseq_inj w1 q1]; exact e1, by rw [I.sseq_inj w2 q2]; exact e2⟩⟩, ⟨b1, b2'.extBut _ _ D.TIz (hk _ _ D.TIz D.TITO D.TIi1 D.TIi2 hTI), ⟨_, _, b2'.extBut _ _ D.TOz a2⟩, a3.to fun o e => b2'.extBut _ _ D.i1z e, a4.to fun o e => b2'.extBut _ _ D.i2z e⟩, fun c hc => ?_⟩
    obtain ⟨o, eo, _⟩ : ∃ o, s.heap.get? c = some o ∧ True := by
      simp only [List.mem_cons, List.not_mem_nil, or_false] at hc
      rcases hc with rfl | rfl | rfl | rfl | rfl
      · exact ⟨_, hz, trivial⟩
      · exact ⟨_, hTI, trivial⟩
      · exact ⟨_, hTO, trivial⟩
      · obtain ⟨o, e, _⟩ := h1.obj; exact ⟨o, e, trivial⟩
      · obtain ⟨o, e, _⟩ := h2.obj; exact ⟨o, e, trivial⟩
    rw [upd_ne (Ne.symm (lt eo))]
    exact (hf c hc).1
  done := by
    intro X hP hw hK hc i pins s σ H E I hf st hg
    subst hP hw hK
    obtain ⟨xs, ys, q1, q2, e⟩ := hg
    obtain ⟨its1, r1, p1, z1⟩ := I.sseq q1
    obtain ⟨its2, r2, p2, z2⟩ := I.sseq q2
    obtain ⟨hz, hTI, ⟨u, v, hTO⟩, h1, h2⟩ := st
    have hf4 : ∀ c ∈ [z, TO, i1, i2], FpOk X pins H c := fun c hc => hf c (by simp only [List.mem_cons, List.not_mem_nil, or_false] at hc ⊢; rcases hc with rfl | rfl | rfl | rfl <;> simp)
    have l1 := r1.length
    have l2 := r2.length
    refine pyNext_zipSE (I.ok.hd hc) D hz hTI hTO h1 h2 p1 p2 ?_ fun h' hk => ⟨rfl, I.turnedL (t' := s.toks) hf4 fun c o hc e => ?_⟩
    · rcases e with e | e
      · exact .inl (by simp; omega)
      · exact .inr (by simp; omega)
    · simp only [List.mem_cons, List.not_mem_nil, or_false, not_or] at hc
      exact hk c o hc.1 hc.2.1 hc.2.2.1 hc.2.2.2 e
  self := fun _ _ _ _ _ st h => wpAny_pyIter_zip st.1 h
theorem bt_zip : bootBuiltins "zip" = some (.type "zip") := by decide +kernel
def iZip (t1 t2 : Bool) (K : PySem.W.Frag) (ta : TA) : TI := fun σ H R => ta σ H fun vs H1 => ∃ a b, vs = [.ref a, .ref b] ∧ (∃ xs, Sq t1 K H1 a xs) ∧ (∃ ys, Sq t2 K H1 b ys) ∧ R (Itz t1 t2 K a b) H1
theorem pi_zip {X : Cx} {ea eb : Expr} {ta : TA} {p pos : Pos} {es : List Expr} {kk : Nat} {tpos : Pos} {t1 t2 : Bool} (hg : Gl X "zip") (hm : X.mg "zip" = none) (ha : PA X [ea, eb] ta) (hs : starEach [ea, eb] X.env = [(false, eval ea X.env), (false, eval eb X.env)] := by rfl) (hs2 : starEach [eb] X.env = [(false, eval eb X.env)] := by rfl) :
    PI X (.Tuple es kk tpos) (.Call (.Name "zip" p) [ea, eb] [] pos) (iZip t1 t2 X.K ta) := by
  intro pins s σ H R I h
  refine Call_ (ld_blt I hg hm bt_zip (PyProof.Rows.callWith_type1 (thn (ha pos pins s σ H _ I h) fun us s1 ⟨vs, H1, I1, r1, q1⟩ => ?_) (by rw [hs, hs2]) (by rw [hs2]; rfl)))
  obtain ⟨a, b, e, ⟨xs, w1⟩, ⟨ys, w2⟩, q⟩ := q1
  subst e
  obtain ⟨u, v, rfl, ru, rv⟩ := r1.two
  cases ru
  cases rv
  obtain ⟨its1, r1, p1, z1⟩ := I1.sseq w1
  obtain ⟨its2, r2, p2, z2⟩ := I1.sseq w2
  have lt1 : a < s1.heap.objs.size := by cases t1 <;> (obtain ⟨_, e, _⟩ := p1; exact Heap.lt_size e)
  have lt2 : b < s1.heap.objs.size := by cases t2 <;> (obtain ⟨_, e, _⟩ := p2; exact Heap.lt_size e)
  refine call_zipS p1 p2 fun h' hz hTI hTO hi1 hi2 hk => wpAny_pyIter_zip hz ?_
  refine ⟨_, _, _, _, H1, rfl, I1.kept (t' := s1.toks) hk, turn_zip (t1 := t1) (t2 := t2) (zipApart_new lt1 lt2), ⟨hz, hTI, ⟨_, _, hTO⟩, hi1, hi2⟩, fun c hc => ?_, q⟩
  have hle : s1.heap.objs.size ≤ c := by
    simp only [List.mem_cons, List.not_mem_nil, or_false] at hc
    rcases hc with rfl | rfl | rfl | rfl | rfl <;> omega
  exact I1.fpOk hle (I1.hok.fresh hle)
section
variable {X : Cx}
theorem call_maxL (hc : X.calm = true) : CallR X (.builtin "max") (fun xs H Q => ∃ p ns, xs = [.ref p] ∧ SqL X.K H p (ns.map V.int) ∧ ns ≠ [] ∧ ∀ M, M ∈ ns → (∀ a ∈ ns, a ≤ M) → Q (.int M) H) := by
  intro pins s σ H xs us Q I r h
  obtain ⟨p, ns, rfl, hq, hne, q⟩ := h
  obtain ⟨u, rfl, rx⟩ := vals1 r
  cases rx
  obtain ⟨its, r', pl, hz⟩ := I.list hq
  have hi := intsAre_of r'
  obtain ⟨zs, e⟩ := hi.allInts.items
  have hns : ns = zs.toList.map (·.1) := by rw [← hi.numsOf, ← nums_intItems, ← e]
  have hsz : 0 < zs.size := by
    have h3 := List.length_pos_iff.mpr hne
    rw [hns, List.length_map, Array.length_toList] at h3
    exact h3
  have pl' := pl.isList
  rw [e] at pl'
  refine max_intList (I.ok.hd hc) pl' hsz fun v h' tk hv hk => ?_
  obtain ⟨t, rfl⟩ := intItems_at hv
  obtain ⟨h1, h2⟩ := argBest_gt (numAt zs) (zs.size - 1)
  refine ⟨.int _, H, I.kept hk, ⟨t, rfl⟩, q _ ?_ fun a ha => ?_⟩
  · rw [hns, numAt_eq]
    exact getD_mem (by rw [List.length_map, Array.length_toList]; omega)
  · rw [hns] at ha
    obtain ⟨j, hj, rfl⟩ := mem_getD ha
    rw [List.length_map, Array.length_toList] at hj
    rw [← numAt_eq]
    exact h2 j (by omega)
def CallKR (X : Cx) (f : Value) (ks : List Str) (r : List V → List V → Hp → VK → Prop) : Prop :=
  ∀ (pins : List (Addr × Obj)) (s : Shared) (σ : St) (H : Hp) (xs zs : List V) (us ws : List Value) (Q : VK), Inv X pins σ H s → Vals xs us → Vals zs ws → r xs zs H Q →
    wpAny (model X.prog X.w) X.A (call f us (ks.zip ws)) (EP X pins σ Q) X.xe s
def tCBK (r : List V → List V → Hp → VK → Prop) (t tk : TA) : TE := fun σ H Q => t σ H fun vs H1 => tk σ H1 fun zs H2 => r vs zs H2 Q
theorem pe_callBK {x : Str} {p pos : Pos} {e : Expr} {es : List Expr} {kws : List Keyword} {t tk : TA} {id : String} {ks : List Str} {r : List V → List V → Hp → VK → Prop} (hc : CallKR X (.builtin id) ks r) (hg : Gl X x) (hm : X.mg x = none) (hv : bootBuiltins x = some (.builtin id))
    (ha : PA X (e :: es) t) (hkw : PK X kws tk) (hks : (backToKw pos (keywordEach kws X.env)).filterMap (·.1) = ks := by rfl) (hn : x ≠ "__name__" := by decide) (hdb : (x == ("__debug__" : Str)) = false := by decide)
    (he : backTo pos (starEach (e :: es) X.env) = (false, eval e X.env) :: backTo pos (starEach es X.env) := by rfl) (hpl : (backTo pos (starEach (e :: es) X.env)).any (·.1) = false := by rfl)
    (hall : (backToKw pos (keywordEach kws X.env)).all (·.1.isSome) = true := by rfl) (hkn : (backToKw pos (keywordEach kws X.env)).any (·.1.isNone) = false := by rfl) : PE X (.Call (.Name x p) (e :: es) kws pos) (tCBK r t tk) := by
  intro pins s σ H Q I h
  refine wpAny_Call_Name_kw (ld_blt I hg hm hv ?_ hn hdb)
  refine PyProof.Rows.callWith_kw (thn (ha pos pins s σ H _ I h) fun us s1 ⟨vs, H1, I1, r1, q1⟩ => thn (hkw pos pins s1 σ H1 _ I1 q1) fun ws s2 ⟨zs, H2, I2, r2, q2⟩ => ?_) he hpl hall hkn
  rw [hks]
  exact hc pins s2 σ H2 vs zs us ws Q I2 r1 r2 q2
theorem call_maxD (hc : X.calm = true) : CallKR X (.builtin "max") ["default"] (fun xs zs H Q => ∃ p ns d, xs = [.ref p] ∧ zs = [.int d] ∧ SqL X.K H p (ns.map V.int) ∧ (ns = [] → Q (.int d) H) ∧ (∀ M, M ∈ ns → (∀ a ∈ ns, a ≤ M) → Q (.int M) H)) := by
  intro pins s σ H xs zs us ws Q I r rz h
  obtain ⟨p, ns, d, rfl, rfl, hq, q0, q⟩ := h
  obtain ⟨u, rfl, rx⟩ := vals1 r
  cases rx
  obtain ⟨v, rfl, td, rfl⟩ := vals1 rz
  obtain ⟨its, r', pl, hz⟩ := I.list hq
  have hi := intsAre_of r'
  obtain ⟨ys, e⟩ := hi.allInts.items
  have hns : ns = ys.toList.map (·.1) := by rw [← hi.numsOf, ← nums_intItems, ← e]
  have pl' := pl.isList
  rw [e] at pl'
  have hname : (toString "max" ++ toString ".loop" : String) = "max.loop" := by decide
  have hh : X.A.handled = none := I.ok.hd hc
  refine kmk_tree PySem.F.kind_max PySem.F.plain_max PySem.F.entry_max (args_maxD _ _) ?_
  show wpAny _ X.A.in1 (Builtin.Builtins.bindParams "max" ["key", "default"] 0 ⟨[], [(Str.ofString "default", .int d td)]⟩ >>= _) _ _ s
  refine wpAny_bind (wpAny_of_eq (show Builtin.Builtins.bindParams "max" ["key", "default"] 0 ⟨[], [(Str.ofString "default", .int d td)]⟩ = pure [none, some (.int d td)] from rfl) ?_)
  refine wpAny_bind (wpAny_pure ?_)
  refine wpAny_bind (iter_intList pl' fun s2 e2 st hfp hlI => ?_)
  subst e2
  refine wpAny_bind (wpAny_newObj_type ?_)
  have W := Walks.list (prog := X.prog) (w := X.w) (A := X.A.in1) hh s.heap.objs.size p hlI (intItems ys)
  rw [hname]
  have old : ∀ b o, s.heap.get? b = some o → b ≠ s.heap.objs.size := fun b o e => Nat.ne_of_lt (Heap.lt_size e)
  refine wpAny_pure ⟨plainId_quiet PySem.F.plain_max_loop _, ?_⟩
  have hSf : (s.heap.push { cls := .type "list_iterator", data := .fields #[.ref p, .int 0 0] }).objs.size ∉ [s.heap.objs.size, p] := fun hm => Nat.lt_irrefl _ (hfp _ hm)
  have st' := W.frame 0 _ ((s.heap.push { cls := .type "list_iterator", data := .fields #[.ref p, .int 0 0] }).push { cls := .type "list", dict := none, data := .seq ([] : List Value).toArray }) st fun b _ o e => Heap.get?_push_of_some _ e
  by_cases hn : 0 < ys.size
  · refine maxK_first _ W (fun i j => decide (numAt ys i > numAt ys j)) (CmpOf.ints_gt (numAt ys) (fun _ _ => intItems_at)) _ hSf (by simpa [intItems] using hn) st' (Heap.get?_push_size _ rfl) fun v h' tk hP hk => ?_
    have hv : (intItems ys)[argBest (fun i j => decide (numAt ys i > numAt ys j)) (ys.size - 1)]? = some v := by simpa [intItems] using hP
    obtain ⟨t, rfl⟩ := intItems_at hv
    obtain ⟨h1, h2⟩ := argBest_gt (numAt ys) (ys.size - 1)
    refine ⟨.int _, H, I.kept fun b o e => hk b o (by simpa using old b o e) ?_ (Heap.get?_push_of_some _ (Heap.get?_push_of_some _ e)), ⟨t, rfl⟩, q _ ?_ fun a ha => ?_⟩
    · have := Heap.lt_size e
      rw [Heap.size_push]
      exact Nat.ne_of_lt (Nat.lt_succ_of_lt this)
    · rw [hns, numAt_eq]
      exact getD_mem (by rw [List.length_map, Array.length_toList]; omega)
    · rw [hns] at ha
      obtain ⟨j, hj, rfl⟩ := mem_getD ha
      rw [List.length_map, Array.length_toList] at hj
      rw [← numAt_eq]
      exact h2 j (by omega)
  · have e0 : (intItems ys).size = 0 := by rw [intItems, Array.size_map]; omega
    rw [e0] at W
    refine maxK_none W _ hSf st' (Heap.get?_push_size _ rfl) fun h' tk hk => ?_
    refine ⟨.int d, H, I.kept fun b o e => hk b o (by simpa using old b o e) (Heap.get?_push_of_some _ (Heap.get?_push_of_some _ e)), ⟨td, rfl⟩, q0 ?_⟩
    rw [hns]
    have : ys.toList.length = 0 := by rw [Array.length_toList]; omega
    rw [List.eq_nil_of_length_eq_zero this]
    rfl
theorem op_eqNil (hu : X.A.units < cLine) : OpR X (compareOp .Eq) (fun x y H Q => ∃ p b xs, x = .ref p ∧ y = .ref b ∧ SqL X.K H p xs ∧ SqL X.K H b [] ∧ Q (.bl xs.isEmpty) H) := by
  intro pins s σ H x y v u Q I rx ry h
  obtain ⟨p, b, xs, rfl, rfl, h1, h2, q⟩ := h
  cases rx
  cases ry
  obtain ⟨its, r1, p1, _⟩ := I.list h1
  obtain ⟨its2, r2, p2, _⟩ := I.list h2
  cases r2
  cases r1 with
  | nil => exact PySem.SeqAt.eq_listAt (e := fun _ => true) p1.isList p2.isList rfl hu (fun j a1 => absurd a1 (by simp)) ⟨.bl true, H, I, rfl, q⟩
  | cons ra rb => exact PySem.SeqAt.eq_list_lengthsAt p1.isList p2.isList (by simp) hu ⟨.bl false, H, I, rfl, q⟩
theorem op_neNil (hu : X.A.units < cLine) : OpR X (compareOp .NotEq) (fun x y H Q => ∃ p b xs, x = .ref p ∧ y = .ref b ∧ SqL X.K H p xs ∧ SqL X.K H b [] ∧ Q (.bl (!xs.isEmpty)) H) := by
  intro pins s σ H x y v u Q I rx ry h
  obtain ⟨p, b, xs, rfl, rfl, h1, h2, q⟩ := h
  cases rx
  cases ry
  obtain ⟨its, r1, p1, _⟩ := I.list h1
  obtain ⟨its2, r2, p2, _⟩ := I.list h2
  cases r2
  cases r1 with
  | nil => exact PySem.SeqAt.RcNeAt.lists (e := fun _ => true) p1.isList p2.isList rfl hu (fun j a1 => absurd a1 (by simp)) _ _ _ _ ⟨.bl false, H, I, rfl, q⟩
  | cons ra rb => exact PySem.SeqAt.RcNeAt.lists_lengths p1.isList p2.isList (by simp) hu _ _ _ _ ⟨.bl true, H, I, rfl, q⟩
end

section
variable {prog : Program} {w : World} {A : Around} {E : Value → Shared → Prop}
end
def gLst (K : PySem.W.Frag) (n : Nat) (t : TGs) : TG := fun v σ H Q => ∃ a xs, v = .ref a ∧ SqL K H a xs ∧ xs.length = n ∧ t xs σ H Q
theorem comp_zip {t1 t2 : Bool} {K : PySem.W.Frag} {a b : Addr} {xs ys : List V} {g : TG} {tc : TT} {te : TE} {σ' : St} {H1 : Hp} {Fin : List V → Hp → Prop} (Pv : Nat → List V → Hp → Prop) (he : xs.length = ys.length) (hz : xs.length ≤ 1000000) (h0 : Pv 0 [] H1)
    (hl : ∀ i acc H, i ≤ xs.length → Pv i acc H → Sq t1 K H a xs ∧ Sq t2 K H b ys ∧ acc.length ≤ i)
    (hs : ∀ i x y p acc H, xs[i]? = some x → ys[i]? = some y → Pv i acc H → H p = none → g (.ref p) σ' (upd H p (.tup [x, y])) fun σ2 H2 => tc σ2 H2 fun b H3 => if b = true then te σ2 H3 fun y H4 => Pv (i + 1) (acc ++ [y]) H4 else Pv (i + 1) acc H3) (hd : ∀ acc H, Pv xs.length acc H → Fin acc H) :
    ∃ W : Nat → Nat → List V → Hp → Prop, (∃ m, W 0 m [] H1) ∧ ∀ i m acc H, W i m acc H → ((Itz t1 t2 K a b).stop i H ∧ acc.length ≤ sizeLine ∧ Fin acc H) ∨
      ((Itz t1 t2 K a b).go i H ∧ acc.length < sizeLine ∧ ∃ N : List V → Hp → Prop, (∀ acc' H', N acc' H' → ∃ m', m' < m ∧ W (i + 1) m' acc' H') ∧ ∀ x H', (Itz t1 t2 K a b).yld i H x H' → g x σ' H' fun σ2 H2 => tc σ2 H2 fun b H3 => if b = true then te σ2 H3 fun y H4 => N (acc ++ [y]) H4 else N acc H3) := by
  have zl : (1000000 : Nat) < sizeLine := by rw [sizeLine_eq]; decide
  refine ⟨fun i m acc H => m = xs.length - i ∧ i ≤ xs.length ∧ Pv i acc H, ⟨xs.length, by simp, Nat.zero_le _, h0⟩, ?_⟩
  rintro i m acc H ⟨rfl, hi, p⟩
  obtain ⟨q1, q2, al⟩ := hl i acc H hi p
  by_cases hlt : i < xs.length
  · refine .inr ⟨⟨xs, ys, xs[i], ys[i]'(by omega), q1, q2, by simp [hlt], List.getElem?_eq_getElem (by omega)⟩, by omega, Pv (i + 1), fun acc' H' p' => ⟨xs.length - (i + 1), by omega, rfl, hlt, p'⟩, fun x H' y => ?_⟩
    obtain ⟨pp, x', y', rfl, hp, rfl, e⟩ := y
    obtain ⟨e1, e2⟩ := e xs ys q1 q2
    exact hs i x' y' pp acc H e1 e2 p hp
  · have e : i = xs.length := by omega
    subst e
    exact .inl ⟨⟨xs, ys, q1, q2, .inl (Nat.le_refl _)⟩, by omega, hd acc H p⟩

section
variable {X : Cx} (K : PySem.W.Frag) (h : X.K = K := by rfl)
include h
theorem ix_tupK : IxR X (rIxT K) := h ▸ ix_tup
theorem pg_tupK {pos : Pos} {es : List Expr} {k : Nat} {t : TGs} {n : Nat} (hc : X.calm = true) (hh : PGs X es t) (hn : (assignEach es X.env).length = n := by rfl) (hst : (assignEach es X.env).findIdx? (·.1) = none := by rfl) : PG X (.Tuple es k pos) (gTup K n t) := h ▸ pg_tup hc hh hn hst
end

def tMid (t : TS) : TS := fun D σ H => ∃ P : St → Hp → Prop, t { D with nx := P } σ H ∧ ∀ σ' H', P σ' H' → D.nx σ' H'
theorem ps_mid {X : Cx} {st : Stmt} {t : TS} (h : PS X st t) : PS X st (tMid t) := by
  intro pins s σ H D I ⟨P, h1, h2⟩
  refine thn (h pins s σ H _ I h1) fun f s' q => ?_
  cases f with
  | next => obtain ⟨σ', H', I', q'⟩ := q; exact ⟨σ', H', I', h2 _ _ q'⟩
  | brk => exact q
  | cont => exact q
  | ret u => exact q
def rMaxL (K : PySem.W.Frag) : List V → Hp → VK → Prop := fun xs H Q => ∃ p ns, xs = [.ref p] ∧ SqL K H p (ns.map V.int) ∧ ns ≠ [] ∧ ∀ M, M ∈ ns → (∀ a ∈ ns, a ≤ M) → Q (.int M) H
section
variable {K : PySem.W.Frag}
end
end L2

set_option linter.all false
namespace Lf
open PySem
inductive Kd where
  | num (w m : Int)
  | row (k : Kd) (n : Int)
  | rcd (fs : List (Str × Kd))
  | cho (ks : List Kd)
def up (n m : Int) : Int := (n + m - 1) / m * m
theorem up_eq {n m : Int} (hm : 0 < m) : up n m = n + m - 1 - (n + m - 1) % m := by
  have := Int.mul_ediv_add_emod (n + m - 1) m
  rw [Int.mul_comm] at this
  unfold up
  omega
theorem up_bounds {n m : Int} (hm : 0 < m) : n ≤ up n m ∧ up n m < n + m := by
  have a := Int.emod_nonneg (n + m - 1) (Int.ne_of_gt hm)
  have b := Int.emod_lt_of_pos (n + m - 1) hm
  rw [up_eq hm]
  omega
theorem up_mod {n m : Int} : up n m % m = 0 := Int.mul_emod_left _ _
def upL (n m : Int) : Int := if n % m = 0 then n else n + m - n % m
theorem mod_unique {a b m : Int} (hm : 0 < m) (ha : a % m = 0) (hb : b % m = 0) (h1 : a - b < m) (h2 : b - a < m) : a = b := by
  have h : (a - b) % m = 0 := by rw [Int.sub_emod, ha, hb]; simp
  obtain ⟨c, hc⟩ := Int.dvd_of_emod_eq_zero h
  by_cases c0 : c = 0
  · subst c0; omega
  · rcases Int.lt_or_gt_of_ne c0 with c1 | c1
    · have : m * c ≤ m * (-1) := Int.mul_le_mul_of_nonneg_left (by omega) (by omega)
      omega
    · have : m * 1 ≤ m * c := Int.mul_le_mul_of_nonneg_left (by omega) (by omega)
      omega
def maxL (d : Int) (l : List Int) : Int := l.foldr max d
theorem maxL_ge {d : Int} : ∀ {l : List Int} {a : Int}, a ∈ l → a ≤ maxL d l
  | b :: r, a, h => by
    show a ≤ max b (maxL d r)
    rcases List.mem_cons.mp h with rfl | h
    · exact Int.le_max_left _ _
    · exact Int.le_trans (maxL_ge h) (Int.le_max_right _ _)
theorem maxL_is {d M : Int} {l : List Int} (hm : M ∈ l) (hd : d ≤ M) (hM : ∀ a ∈ l, a ≤ M) : M = maxL d l := by
  refine Int.le_antisymm (maxL_ge hm) ?_
  clear hm
  induction l with
  | nil => exact hd
  | cons b r ih =>
    show max b (maxL d r) ≤ M
    exact Int.max_le.mpr ⟨hM b List.mem_cons_self, ih fun a ha => hM a (List.mem_cons_of_mem _ ha)⟩
def ends (e : Int) : List (Int × Int) → List Int
  | [] => []
  | r :: rs => (up e r.2 + r.1) :: ends (up e r.2 + r.1) rs
def lastEnd (e : Int) : List (Int × Int) → Int
  | [] => e
  | r :: rs => lastEnd (up e r.2 + r.1) rs
def plcs (e : Int) : List (Int × Int) → List Int
  | [] => []
  | r :: rs => up e r.2 :: plcs (up e r.2 + r.1) rs
def Rms (rs : List (Int × Int)) : Prop := ∀ r ∈ rs, 0 ≤ r.1 ∧ 0 < r.2
theorem lastEnd_ge : ∀ {rs : List (Int × Int)} {e : Int}, Rms rs → e ≤ lastEnd e rs
  | [], e, _ => Int.le_refl e
  | r :: rs, e, h => by
    obtain ⟨a, b⟩ := h r List.mem_cons_self
    have := lastEnd_ge (rs := rs) (e := up e r.2 + r.1) fun x hx => h x (List.mem_cons_of_mem _ hx)
    have := (up_bounds (n := e) b).1
    show e ≤ lastEnd (up e r.2 + r.1) rs
    omega
theorem ends_max : ∀ {rs : List (Int × Int)} {e : Int}, Rms rs → rs ≠ [] → lastEnd e rs ∈ ends e rs ∧ ∀ a ∈ ends e rs, a ≤ lastEnd e rs
  | [], _, _, h => absurd rfl h
  | [r], e, h, _ => by
    refine ⟨List.mem_cons_self, fun a ha => ?_⟩
    rcases List.mem_cons.mp ha with rfl | ha
    · exact Int.le_refl _
    · cases ha
  | r :: s :: rs, e, h, _ => by
    have ih := ends_max (rs := s :: rs) (e := up e r.2 + r.1) (fun x hx => h x (List.mem_cons_of_mem _ hx)) (by simp)
    refine ⟨List.mem_cons_of_mem _ ih.1, fun a ha => ?_⟩
    rcases List.mem_cons.mp ha with rfl | ha
    · exact lastEnd_ge (rs := s :: rs) fun x hx => h x (List.mem_cons_of_mem _ hx)
    · exact ih.2 a ha
theorem plcs_length : ∀ (rs : List (Int × Int)) (e : Int), (plcs e rs).length = rs.length
  | [], _ => rfl
  | r :: rs, e => by show (plcs _ rs).length + 1 = _; rw [plcs_length rs]; rfl
theorem plcs_snoc : ∀ (rs : List (Int × Int)) (r : Int × Int) (e : Int), plcs e (rs ++ [r]) = plcs e rs ++ [up (lastEnd e rs) r.2]
  | [], _, _ => rfl
  | s :: rs, r, e => by show up e s.2 :: plcs _ (rs ++ [r]) = up e s.2 :: (plcs _ rs ++ _); rw [plcs_snoc rs]; rfl
theorem lastEnd_snoc : ∀ (rs : List (Int × Int)) (r : Int × Int) (e : Int), lastEnd e (rs ++ [r]) = up (lastEnd e rs) r.2 + r.1
  | [], _, _ => rfl
  | s :: rs, r, e => lastEnd_snoc rs r _
theorem ends_zip : ∀ (rs : List (Int × Int)) (e : Int), ends e rs = ((plcs e rs).zip rs).map fun p => p.1 + p.2.1
  | [], _ => rfl
  | r :: rs, e => by show _ :: ends _ rs = _ :: _; rw [ends_zip rs]; rfl
def rcdRm (rs : List (Int × Int)) : Int × Int := (up (lastEnd 0 rs) (maxL 1 (rs.map (·.2))), maxL 1 (rs.map (·.2)))
def choRm (rs : List (Int × Int)) : Int × Int := (up (up 1 (maxL 1 (rs.map (·.2))) + maxL 0 (rs.map (·.1))) (maxL 1 (rs.map (·.2))), maxL 1 (rs.map (·.2)))
mutual
def Kd.rm : Kd → Int × Int
  | .num w m => (w, m)
  | .row k n => (n * up k.rm.1 k.rm.2, k.rm.2)
  | .rcd fs => rcdRm (rmF fs)
  | .cho ks => choRm (rmK ks)
def rmF : List (Str × Kd) → List (Int × Int)
  | [] => []
  | f :: r => f.2.rm :: rmF r
def rmK : List Kd → List (Int × Int)
  | [] => []
  | k :: r => k.rm :: rmK r
end
mutual
def Kd.deep : Kd → Nat
  | .num _ _ => 1
  | .row k _ => k.deep + 1
  | .rcd fs => deepF fs + 1
  | .cho ks => deepK ks + 1
def deepF : List (Str × Kd) → Nat
  | [] => 0
  | f :: r => max f.2.deep (deepF r)
def deepK : List Kd → Nat
  | [] => 0
  | k :: r => max k.deep (deepK r)
end
mutual
def Kd.Ok : Kd → Prop
  | .num w m => 1 ≤ w ∧ w ≤ 8 ∧ 1 ≤ m ∧ m ≤ 8
  | .row k n => k.Ok ∧ 0 ≤ n ∧ n ≤ 100
  | .rcd fs => okF fs ∧ fs.length ≤ 10
  | .cho ks => okK ks ∧ ks.length ≤ 10
def okF : List (Str × Kd) → Prop
  | [] => True
  | f :: r => f.2.Ok ∧ okF r
def okK : List Kd → Prop
  | [] => True
  | k :: r => k.Ok ∧ okK r
end
theorem maxL_le {d M : Int} : ∀ {l : List Int}, d ≤ M → (∀ a ∈ l, a ≤ M) → maxL d l ≤ M
  | [], hd, _ => hd
  | b :: r, hd, h => Int.max_le.mpr ⟨h b List.mem_cons_self, maxL_le hd fun a ha => h a (List.mem_cons_of_mem _ ha)⟩
theorem maxL_d {d : Int} : ∀ (l : List Int), d ≤ maxL d l
  | [] => Int.le_refl _
  | b :: r => Int.le_trans (maxL_d r) (Int.le_max_right _ _)
def Bd (B : Int) (r : Int × Int) : Prop := 0 ≤ r.1 ∧ r.1 ≤ B ∧ 1 ≤ r.2 ∧ r.2 ≤ 8
theorem lastEnd_le {B : Int} : ∀ {rs : List (Int × Int)} {e : Int}, 0 ≤ e → (∀ r ∈ rs, Bd B r) → 0 ≤ lastEnd e rs ∧ lastEnd e rs ≤ e + (rs.length : Int) * (B + 8)
  | [], e, h0, _ => ⟨h0, by simp [lastEnd]⟩
  | r :: rs, e, h0, h => by
    obtain ⟨a, b, c, d⟩ := h r List.mem_cons_self
    obtain ⟨u1, u2⟩ := up_bounds (n := e) (m := r.2) (by omega)
    have ih := lastEnd_le (B := B) (rs := rs) (e := up e r.2 + r.1) (by omega) fun x hx => h x (List.mem_cons_of_mem _ hx)
    refine ⟨ih.1, ?_⟩
    show lastEnd (up e r.2 + r.1) rs ≤ _
    have e1 : ((r :: rs).length : Int) * (B + 8) = (rs.length : Int) * (B + 8) + (B + 8) := by
      rw [List.length_cons]
      push_cast
      rw [Int.add_mul]
      omega
    rw [e1]
    omega
theorem mx_bd {B : Int} {rs : List (Int × Int)} (h : ∀ r ∈ rs, Bd B r) : 1 ≤ maxL 1 (rs.map (·.2)) ∧ maxL 1 (rs.map (·.2)) ≤ 8 :=
  ⟨maxL_d _, maxL_le (by decide) fun a ha => by obtain ⟨r, hr, rfl⟩ := List.mem_map.mp ha; exact (h r hr).2.2.2⟩
theorem rcd_bd {B : Int} {rs : List (Int × Int)} (h : ∀ r ∈ rs, Bd B r) (hl : rs.length ≤ 10) (hB : 0 ≤ B) : Bd (1000 * (B + 8)) (rcdRm rs) := by
  obtain ⟨a, b⟩ := mx_bd h
  obtain ⟨c, d⟩ := lastEnd_le (e := 0) (by omega) h
  obtain ⟨u1, u2⟩ := up_bounds (n := lastEnd 0 rs) (m := maxL 1 (rs.map (·.2))) (by omega)
  have : (rs.length : Int) * (B + 8) ≤ 10 * (B + 8) := Int.mul_le_mul_of_nonneg_right (by omega) (by omega)
  exact ⟨by show 0 ≤ up _ _; omega, by show up _ _ ≤ _; omega, a, b⟩
theorem cho_bd {B : Int} {rs : List (Int × Int)} (h : ∀ r ∈ rs, Bd B r) (hB : 0 ≤ B) : Bd (1000 * (B + 8)) (choRm rs) := by
  obtain ⟨a, b⟩ := mx_bd h
  have c : 0 ≤ maxL 0 (rs.map (·.1)) := maxL_d _
  have d : maxL 0 (rs.map (·.1)) ≤ B := maxL_le hB fun z hz => by obtain ⟨r, hr, rfl⟩ := List.mem_map.mp hz; exact (h r hr).2.1
  obtain ⟨u1, u2⟩ := up_bounds (n := 1) (m := maxL 1 (rs.map (·.2))) (by omega)
  obtain ⟨v1, v2⟩ := up_bounds (n := up 1 (maxL 1 (rs.map (·.2))) + maxL 0 (rs.map (·.1))) (m := maxL 1 (rs.map (·.2))) (by omega)
  exact ⟨by show 0 ≤ up _ _; omega, by show up _ _ ≤ _; omega, a, b⟩
def bnd : Nat → Int
  | 0 => 0
  | n + 1 => 1000 * (bnd n + 8)
theorem bnd_nonneg : ∀ n, 0 ≤ bnd n
  | 0 => Int.le_refl _
  | n + 1 => by have := bnd_nonneg n; show 0 ≤ 1000 * (bnd n + 8); omega
theorem bnd_mono {n m : Nat} (h : n ≤ m) : bnd n ≤ bnd m := by
  induction m with
  | zero => cases (Nat.le_zero.mp h); exact Int.le_refl _
  | succ m ih =>
    by_cases e : n = m + 1
    · subst e; exact Int.le_refl _
    · have := ih (by omega)
      have := bnd_nonneg m
      show bnd n ≤ 1000 * (bnd m + 8)
      omega
theorem Bd.mono {B C : Int} {r : Int × Int} (h : Bd B r) (hb : B ≤ C) : Bd C r := ⟨h.1, Int.le_trans h.2.1 hb, h.2.2⟩
mutual
theorem Kd.bd : ∀ (k : Kd), k.Ok → Bd (bnd k.deep) k.rm
  | .num w m, h => by
    obtain ⟨a, b, c, d⟩ := h
    refine ⟨by show 0 ≤ w; omega, ?_, c, d⟩
    show w ≤ 1000 * (0 + 8)
    omega
  | .row k n, h => by
    obtain ⟨hk, h0, h1⟩ := h
    obtain ⟨a, b, c, d⟩ := Kd.bd k hk
    obtain ⟨u1, u2⟩ := up_bounds (n := k.rm.1) (m := k.rm.2) (by omega)
    refine ⟨Int.mul_nonneg h0 (by omega), ?_, c, d⟩
    have e1 : n * up k.rm.1 k.rm.2 ≤ 100 * up k.rm.1 k.rm.2 := Int.mul_le_mul_of_nonneg_right h1 (by omega)
    show n * up k.rm.1 k.rm.2 ≤ 1000 * (bnd k.deep + 8)
    omega
  | .rcd fs, h => by
    refine rcd_bd (rs := rmF fs) (bdF fs h.1) ?_ (bnd_nonneg _)
    have : (rmF fs).length = fs.length := lenF fs
    rw [this]; exact h.2
  | .cho ks, h => cho_bd (rs := rmK ks) (bdK ks h.1) (bnd_nonneg _)
theorem bdF : ∀ (fs : List (Str × Kd)), okF fs → ∀ r ∈ rmF fs, Bd (bnd (deepF fs)) r
  | [], _, _, h => nomatch h
  | f :: fs, h, r, hr => by
    have hr' : r ∈ f.2.rm :: rmF fs := hr
    rcases List.mem_cons.mp hr' with rfl | hr'
    · exact (Kd.bd f.2 h.1).mono (bnd_mono (Nat.le_max_left _ _))
    · exact (bdF fs h.2 r hr').mono (bnd_mono (Nat.le_max_right _ _))
theorem bdK : ∀ (ks : List Kd), okK ks → ∀ r ∈ rmK ks, Bd (bnd (deepK ks)) r
  | [], _, _, h => nomatch h
  | k :: ks, h, r, hr => by
    have hr' : r ∈ k.rm :: rmK ks := hr
    rcases List.mem_cons.mp hr' with rfl | hr'
    · exact (Kd.bd k h.1).mono (bnd_mono (Nat.le_max_left _ _))
    · exact (bdK ks h.2 r hr').mono (bnd_mono (Nat.le_max_right _ _))
theorem lenF : ∀ (fs : List (Str × Kd)), (rmF fs).length = fs.length
  | [] => rfl
  | f :: fs => by show (rmF fs).length + 1 = _; rw [lenF fs]; rfl
end
theorem lenK : ∀ (ks : List Kd), (rmK ks).length = ks.length
  | [] => rfl
  | f :: fs => by show (rmK fs).length + 1 = _; rw [lenK fs]; rfl
inductive Dt where
  | int (i : Int)
  | str (x : Str)
  | bl (b : Bool)
  | tup (ds : List Dt)
  | lst (ds : List Dt)
mutual
def Kd.dt : Kd → Dt
  | .num w m => .tup [.str "number", .int w, .int m]
  | .row k n => .tup [.str "row", k.dt, .int n]
  | .rcd fs => .tup [.str "record", .lst (dtF fs)]
  | .cho ks => .tup [.str "choice", .lst (dtK ks)]
def dtF : List (Str × Kd) → List Dt
  | [] => []
  | f :: r => .tup [.str f.1, f.2.dt] :: dtF r
def dtK : List Kd → List Dt
  | [] => []
  | k :: r => k.dt :: dtK r
end
mutual
def Dt.deep : Dt → Nat
  | .int _ => 1
  | .str _ => 1
  | .bl _ => 1
  | .tup ds => deepD ds + 1
  | .lst ds => deepD ds + 1
def deepD : List Dt → Nat
  | [] => 0
  | d :: r => max d.deep (deepD r)
end
theorem Kd.deep_pos : ∀ k : Kd, 1 ≤ k.deep
  | .num _ _ => Nat.le_refl _
  | .row k _ => Nat.le_add_left 1 k.deep
  | .rcd fs => Nat.le_add_left 1 (deepF fs)
  | .cho ks => Nat.le_add_left 1 (deepK ks)
mutual
theorem Kd.dt_deep : ∀ k : Kd, k.dt.deep ≤ 3 * k.deep
  | .num w m => by show max 1 (max 1 (max 1 0)) + 1 ≤ 3; decide
  | .row k n => by
    have := Kd.dt_deep k
    show max 1 (max k.dt.deep (max 1 0)) + 1 ≤ 3 * (k.deep + 1)
    omega
  | .rcd fs => by
    have := dtF_deep fs
    show max 1 (max (deepD (dtF fs) + 1) 0) + 1 ≤ 3 * (deepF fs + 1)
    omega
  | .cho ks => by
    have := dtK_deep ks
    show max 1 (max (deepD (dtK ks) + 1) 0) + 1 ≤ 3 * (deepK ks + 1)
    omega
theorem dtF_deep : ∀ fs : List (Str × Kd), deepD (dtF fs) ≤ 3 * deepF fs + 1
  | [] => by decide
  | f :: r => by
    have := Kd.dt_deep f.2
    have := dtF_deep r
    have := Kd.deep_pos f.2
    show max (max 1 (max f.2.dt.deep 0) + 1) (deepD (dtF r)) ≤ 3 * max f.2.deep (deepF r) + 1
    omega
theorem dtK_deep : ∀ ks : List Kd, deepD (dtK ks) ≤ 3 * deepK ks + 1
  | [] => by decide
  | k :: r => by
    have := Kd.dt_deep k
    have := dtK_deep r
    show max k.dt.deep (deepD (dtK r)) ≤ 3 * max k.deep (deepK r) + 1
    omega
end
end Lf

set_option Elab.async false
set_option linter.all false
set_option maxRecDepth 100000
namespace Lf
open PySem L2
mutual
def IsD (H : Hp) : Dt → V → Prop
  | .int i, v => v = .int i
  | .str x, v => v = .str x
  | .bl b, v => v = .bl b
  | .tup ds, v => ∃ a vs, v = .ref a ∧ H a = some (.tup vs) ∧ IsDs H ds vs
  | .lst ds, v => ∃ a vs, v = .ref a ∧ H a = some (.lst vs) ∧ IsDs H ds vs
def IsDs (H : Hp) : List Dt → List V → Prop
  | [], vs => vs = []
  | d :: r, vs => ∃ v vr, vs = v :: vr ∧ IsD H d v ∧ IsDs H r vr
end
mutual
theorem IsD.same {H H' : Hp} (e : Same H H') : ∀ {d : Dt} {v : V}, IsD H d v → IsD H' d v
  | .int _, _, h => h
  | .str _, _, h => h
  | .bl _, _, h => h
  | .tup ds, _, ⟨a, vs, h1, h2, h3⟩ => ⟨a, vs, h1, e _ _ h2, IsDs.same e h3⟩
  | .lst ds, _, ⟨a, vs, h1, h2, h3⟩ => ⟨a, vs, h1, e _ _ h2, IsDs.same e h3⟩
theorem IsDs.same {H H' : Hp} (e : Same H H') : ∀ {ds : List Dt} {vs : List V}, IsDs H ds vs → IsDs H' ds vs
  | [], _, h => h
  | d :: r, _, ⟨v, vr, h1, h2, h3⟩ => ⟨v, vr, h1, IsD.same e h2, IsDs.same e h3⟩
end
theorem IsDs.len {H : Hp} : ∀ {ds : List Dt} {vs : List V}, IsDs H ds vs → vs.length = ds.length
  | [], _, h => by cases (show _ = [] from h); rfl
  | d :: r, _, ⟨v, vr, h1, _, h3⟩ => by subst h1; show vr.length + 1 = r.length + 1; rw [IsDs.len h3]
theorem IsDs.get {H : Hp} : ∀ {ds : List Dt} {vs : List V} {i : Nat} {v : V}, IsDs H ds vs → vs[i]? = some v → ∃ d, ds[i]? = some d ∧ IsD H d v
  | [], _, _, _, h, e => by cases (show _ = [] from h); simp at e
  | d :: r, _, 0, v, ⟨u, vr, h1, h2, h3⟩, e => by subst h1; simp at e; subst e; exact ⟨d, rfl, h2⟩
  | d :: r, _, i + 1, v, ⟨u, vr, h1, h2, h3⟩, e => by subst h1; obtain ⟨d', a, b⟩ := IsDs.get (i := i) h3 (by simpa using e); exact ⟨d', by simpa using a, b⟩
theorem IsDs.snoc {H : Hp} {d : Dt} {v : V} (h : IsD H d v) : ∀ {ds : List Dt} {vs : List V}, IsDs H ds vs → IsDs H (ds ++ [d]) (vs ++ [v])
  | [], _, hs => by cases (show _ = [] from hs); exact ⟨v, [], rfl, h, rfl⟩
  | e :: r, _, ⟨u, vr, h1, h2, h3⟩ => by subst h1; exact ⟨u, vr ++ [v], rfl, h2, IsDs.snoc h h3⟩
theorem same_new {H : Hp} {p : Addr} (h : H p = none) (o : HO) : Same H (upd H p o) := fun b u q => by rw [upd_ne (ne_of_none q h)]; exact q
def hide (p : Addr) (H : Hp) : Hp := fun b => if b = p then none else H b
theorem hide_ne {p b : Addr} {H : Hp} (h : b ≠ p) : hide p H b = H b := if_neg h
theorem hide_sub (p : Addr) (H : Hp) : Same (hide p H) H := fun b o h => by
  by_cases e : b = p
  · subst e; rw [show hide b H b = none from if_pos rfl] at h; cases h
  · rw [hide_ne e] at h; exact h
theorem hide_some {p b : Addr} {H : Hp} {o : HO} (h : hide p H b = some o) : b ≠ p ∧ H b = some o := by
  by_cases e : b = p
  · subst e; rw [show hide b H b = none from if_pos rfl] at h; cases h
  · rw [hide_ne e] at h; exact ⟨e, h⟩
theorem hide_same {p : Addr} {H H' : Hp} (e : Same H H') : Same (hide p H) (hide p H') := fun b o h => by
  obtain ⟨n, q⟩ := hide_some h
  rw [hide_ne n]
  exact e b o q
abbrev SameX (p : Addr) (H H' : Hp) : Prop := Same (hide p H) (hide p H')
theorem SameX.upd (p : Addr) (H : Hp) (o : HO) : SameX p H (L2.upd H p o) := fun b u h => by
  obtain ⟨n, q⟩ := hide_some h
  rw [hide_ne n, upd_ne n]
  exact q
theorem SameX.get {p b : Addr} {H H' : Hp} {o : HO} (e : SameX p H H') (n : b ≠ p) (h : H b = some o) : H' b = some o := by
  have := e b o (by rw [hide_ne n]; exact h)
  rw [hide_ne n] at this
  exact this
theorem SameX.of {p : Addr} {H H' : Hp} (e : Same H H') : SameX p H H' := hide_same e
theorem seq_x {K : PySem.W.Frag} {H : Hp} {a p : Addr} {xs : List V} (h : SqL K H a xs) (hp : H p = none) {H' : Hp} (e : SameX p H H') : SqL K H' a xs := by
  rcases h with (h | ⟨o, h⟩) | h
  · exact .inl (.inl (e.get (ne_of_none h hp) h))
  · exact .inl (.inr ⟨o, e.get (ne_of_none h hp) h⟩)
  · exact .inr h
theorem atI_in {α : Type} {xs : List α} {i : Int} (h0 : 0 ≤ i) (h1 : i < (xs.length : Int)) : ∃ v, atI xs i = some v ∧ v ∈ xs := by
  have hk : i.toNat < xs.length := by omega
  have ek : ((i.toNat : Nat) : Int) = i := by omega
  have q : atI xs ((i.toNat : Nat) : Int) = some xs[i.toNat] := atI_nat (List.getElem?_eq_getElem hk)
  rw [ek] at q
  exact ⟨_, q, List.getElem_mem _⟩
theorem iteND {c A B : Prop} [Decidable c] (h : ¬ c) (hB : B) : if decide c = true then A else B := by
  rw [decide_eq_false h]
  exact iteF hB
theorem iteDT {c A B : Prop} [Decidable c] (h : c) (hA : A) : if decide c = true then A else B := by
  rw [decide_eq_true h]
  exact iteT hA
theorem lists3 (n : Nat) (h : n ≤ 1000) : n ≤ sizeLine := Nat.le_of_lt (small1000 h)
theorem str_ne {x y : Str} (h : (x == y) = false) : ¬ V.str x = V.str y := fun e => by
  have e' : x = y := V.str.inj e
  rw [e', beq_self_eq_true] at h
  cases h
end Lf

set_option Elab.async false
set_option linter.all false
set_option maxRecDepth 100000

namespace L2
open PySem PySem.Spec PyProof.Rows

section
variable {κ : Type} [DecidableEq κ]
def valV (kvs : List (κ × V)) (k : κ) : Option V := (kvs.find? fun kv => decide (kv.1 = k)).map (·.2)
def putK (kvs : List (κ × V)) (k : κ) (v : V) : List (κ × V) :=
  if (kvs.any fun kv => decide (kv.1 = k)) = true then kvs.map (fun kv => if kv.1 = k then (kv.1, v) else kv) else kvs ++ [(k, v)]
def dropK (kvs : List (κ × V)) (k : κ) : List (κ × V) := kvs.filter fun kv => decide (kv.1 ≠ k)

end


abbrev KT (H : Hp) : List (List Key × V) → List (List Key × Addr × Value) → Prop := Paired fun p q => p.1 = q.1 ∧ H q.2.1 = some (.tup (p.1.map kV)) ∧ RelV p.2 q.2.2
section
variable {P : Program} {w : World} {H : Hp} {h : Heap} {a : Addr}
end

def DGet (H : Hp) (a : Addr) (y : V) (r : Option V) : Prop :=
  (∃ kvs k, Rd H a (.dK kvs) ∧ y = kV k ∧ r = valV kvs k) ∨ ∃ kvs k b, Rd H a (.dT kvs) ∧ y = .ref b ∧ H b = some (.tup (k.map kV)) ∧ r = valV kvs k
def DPut (H : Hp) (a : Addr) (y v : V) (H' : Hp) : Prop :=
  (∃ kvs k, H a = some (.dK kvs) ∧ y = kV k ∧ kvs.length < sizeLine ∧ H' = upd H a (.dK (putK kvs k v))) ∨
  ∃ kvs k b, H a = some (.dT kvs) ∧ y = .ref b ∧ H b = some (.tup (k.map kV)) ∧ kvs.length < sizeLine ∧ H' = upd H a (.dT (putK kvs k v))
section
variable {X : Cx} {pins : List (Addr × Obj)} {σ : St} {H : Hp} {s : Shared} {a : Addr} {y v : V} {u r : Value} {o : Option V} {A : Around} {E : Value → Shared → Prop}

end

section
variable {X : Cx} {pins : List (Addr × Obj)} {σ : St} {H : Hp} {s : Shared} {a : Addr} {kvs : List (Key × V)} {k : Key} {u : Value} {A : Around} {E : Value → Shared → Prop}
end


def NoSl (i : Expr) : Prop := ∀ ov iv, subscripted i false ov iv = operate [ov, iv] (getItem ov iv)
def tDGet (td ty : TE) : TE := fun σ H Q => td σ H fun x H1 => ty σ H1 fun y H2 => ∃ a v, x = .ref a ∧ DGet H2 a y (some v) ∧ Q v H2
def tDIn (ty td : TE) : TE := fun σ H Q => ty σ H fun y H1 => td σ H1 fun x H2 => ∃ a o, x = .ref a ∧ DGet H2 a y o ∧ Q (.bl o.isSome) H2
def tDNotIn (ty td : TE) : TE := fun σ H Q => ty σ H fun y H1 => td σ H1 fun x H2 => ∃ a o, x = .ref a ∧ DGet H2 a y o ∧ Q (.bl (!o.isSome)) H2
def sDPut (td ty tv : TE) : TS := fun D σ H => tv σ H fun v H1 => td σ H1 fun x H2 => ty σ H2 fun y H3 => ∃ a H4, x = .ref a ∧ DPut H3 a y v H4 ∧ D.nx σ H4
def sDAug (td ty tv : TE) (rd : V → V → Hp → VK → Prop) : TS := fun D σ H => td σ H fun x H1 => ty σ H1 fun y H2 => ∃ a v, x = .ref a ∧ DGet H2 a y (some v) ∧
  tv σ H2 fun y2 H3 => rd v y2 H3 fun z H4 => ∃ H5, DPut H4 a y z H5 ∧ D.nx σ H5
def sDDel (td ty : TE) : TS := fun D σ H => td σ H fun x H1 => ty σ H1 fun y H2 => ∃ a kvs k, x = .ref a ∧ H2 a = some (.dK kvs) ∧ y = kV k ∧ (valV kvs k).isSome = true ∧ D.nx σ (upd H2 a (.dK (dropK kvs k)))

section
variable {X : Cx} {o i e value : Expr} {pos pos' tpos : Pos} {td ty tv : TE}
end


def tDNewK : TE := fun _ H Q => ∀ p, H p = none → Q (.ref p) (upd H p (.dK []))
def tDNewT : TE := fun _ H Q => ∀ p, H p = none → Q (.ref p) (upd H p (.dT []))
section
variable {X : Cx} {pos : Pos}
end

def tPairs : List (TE × TE) → St → Hp → (List (V × V) → Hp → Prop) → Prop
  | [], _, H, Q => Q [] H
  | (tk, tv) :: r, σ, H, Q => tk σ H fun x H1 => tv σ H1 fun y H2 => tPairs r σ H2 fun ps H3 => Q ((x, y) :: ps) H3
abbrev VV : List (V × V) → List (Value × Value) → Prop := Paired fun p q => RelV p.1 q.1 ∧ RelV p.2 q.2
def PPs (X : Cx) (pos : Pos) (keys : List (Option Expr)) (values : List Expr) (trs : List (TE × TE)) : Prop :=
  ∀ (pins : List (Addr × Obj)) (s : Shared) (σ : St) (H : Hp) (Q : List (V × V) → Hp → Prop), Inv X pins σ H s → tPairs trs σ H Q →
    wpAny (model X.prog X.w) X.A (evalPairs (pairTrees keys values X.env pos)) (fun vs s' => ∃ ps H', Inv X pins σ H' s' ∧ VV ps vs ∧ Q ps H') X.xe s
def mergeK (kvs more : List (Key × V)) : List (Key × V) := more.foldl (fun acc kv => putK acc kv.1 kv.2) kvs
def tDisp (trs : List (TE × TE)) : TE := fun σ H Q => ∀ p, H p = none → tPairs trs σ (upd H p (.dK [])) fun ps H2 => H2 p = some (.dK []) ∧ ∃ kvs : List (Key × V), ps = kvs.map (fun kv => (kV kv.1, kv.2)) ∧ kvs.length ≤ 15 ∧ Q (.ref p) (upd H2 p (.dK (mergeK [] kvs)))
structure M1 (X : Cx) (o : Expr) (m : Str) (apos : Pos) (e : Expr) (cpos : Pos) : Prop where
  base : attributeBase o m X.env (eval o X.env) = eval o X.env
  few : ((backTo cpos (starEach [e] X.env)).all (fun x => !x.1) && (backToKw cpos (keywordEach [] X.env)).all (fun x => x.1.isSome)
    && decide (([e] : List Expr).length + ([] : List Keyword).length + (if ([] : List Keyword).isEmpty then 0 else 1) < 30)) = true
  line : (apos.endLine == cpos.line) = true
  trees : backTo cpos (starEach [e] X.env) = [(false, eval e X.env)]
structure M2 (X : Cx) (o : Expr) (m : Str) (apos : Pos) (e f : Expr) (cpos : Pos) : Prop where
  base : attributeBase o m X.env (eval o X.env) = eval o X.env
  few : ((backTo cpos (starEach [e, f] X.env)).all (fun x => !x.1) && (backToKw cpos (keywordEach [] X.env)).all (fun x => x.1.isSome)
    && decide (([e, f] : List Expr).length + ([] : List Keyword).length + (if ([] : List Keyword).isEmpty then 0 else 1) < 30)) = true
  line : (apos.endLine == cpos.line) = true
  trees : backTo cpos (starEach [e, f] X.env) = [(false, eval e X.env), (false, eval f X.env)]

def IsD (H : Hp) (a : Addr) : Prop := (∃ kvs, Rd H a (.dK kvs)) ∨ ∃ kvs, Rd H a (.dT kvs)
section
variable {X : Cx} {pins : List (Addr × Obj)} {σ : St} {H : Hp} {s : Shared} {a : Addr} {y d : V} {u r : Value} {o : Option V} {A : Around} {E : Value → Shared → Prop}
end

def tDGet1 (td ty : TE) : TE := fun σ H Q => td σ H fun x H1 => ∃ a, x = .ref a ∧ IsD H1 a ∧ ty σ H1 fun y H2 => ∃ o, DGet H2 a y o ∧ Q (o.getD .non) H2
def tDGet2 (td ty tx : TE) : TE := fun σ H Q => td σ H fun x H1 => ∃ a, x = .ref a ∧ IsD H1 a ∧ ty σ H1 fun y H2 => tx σ H2 fun z H3 => ∃ o, DGet H3 a y o ∧ Q (o.getD z) H3
def tDPop1 (td ty : TE) : TE := fun σ H Q => td σ H fun x H1 => ∃ a, x = .ref a ∧ IsD H1 a ∧ ty σ H1 fun y H2 => ∃ kvs k v, H2 a = some (.dK kvs) ∧ y = kV k ∧ valV kvs k = some v ∧ Q v (upd H2 a (.dK (dropK kvs k)))
def tDPop2 (td ty tx : TE) : TE := fun σ H Q => td σ H fun x H1 => ∃ a, x = .ref a ∧ IsD H1 a ∧ ty σ H1 fun y H2 => tx σ H2 fun z H3 => ∃ kvs k, H3 a = some (.dK kvs) ∧ y = kV k ∧
  (∀ v, valV kvs k = some v → Q v (upd H3 a (.dK (dropK kvs k)))) ∧ (valV kvs k = none → Q z H3)
section
variable {X : Cx} {o e f : Expr} {apos cpos : Pos} {td ty tx : TE}
end

section
variable {X : Cx} {pins : List (Addr × Obj)} {σ : St} {H : Hp} {s : Shared} {a : Addr} {kvs : List (Key × V)} {A : Around} {E : Value → Shared → Prop}
end


section
variable {X : Cx} {pins : List (Addr × Obj)} {σ : St} {H : Hp} {s : Shared} {a : Addr} {y : V} {u : Value} {A : Around} {E : Value → Shared → Prop}
end
end L2

set_option Elab.async false
set_option linter.all false
set_option maxRecDepth 100000
set_option maxHeartbeats 4000000
namespace L2
open PySem PySem.Spec PyProof.Rows
theorem bt_all : bootBuiltins "all" = some (.builtin "all") := by decide +kernel
theorem vals_bl : ∀ {bs : List Bool} {us : List Value}, Vals (bs.map V.bl) us → us = bs.map Value.bool
  | [], _, h => by cases h; rfl
  | b :: bs, _, h => by
    cases h with
    | cons ra rb =>
      cases ra
      rw [vals_bl rb]
      rfl
theorem range_all : ∀ (bs : List Bool), (List.range bs.length).all (fun i => bs[i]?.getD false) = bs.all id := by
  intro bs
  rw [Bool.eq_iff_iff, List.all_eq_true, List.all_eq_true]
  constructor
  · intro h b hb
    obtain ⟨i, hi, rfl⟩ := List.getElem_of_mem hb
    have := h i (List.mem_range.mpr hi)
    rw [List.getElem?_eq_getElem hi] at this
    exact this
  · intro h i hi
    have hi' := List.mem_range.mp hi
    rw [List.getElem?_eq_getElem hi']
    exact h _ (List.getElem_mem hi')
section
variable {X : Cx}
def rAllL (K : PySem.W.Frag) : List V → Hp → VK → Prop := fun xs H Q => ∃ (p : Addr) (bs : List Bool), xs = [.ref p] ∧ SqL K H p (bs.map V.bl) ∧ Q (.bl (bs.all id)) H
theorem call_allL (hc : X.calm = true) : CallR X (.builtin "all") (rAllL X.K) := by
  intro pins s σ H xs us Q I r h
  obtain ⟨p, bs, rfl, hq, q⟩ := h
  obtain ⟨u, rfl, rx⟩ := vals1 r
  cases rx
  obtain ⟨its, r', pl, hz⟩ := I.list hq
  have hi := vals_bl r'
  subst hi
  have hh : X.A.in1.handled = none := I.ok.hd hc
  have lt : p < s.heap.objs.size := by obtain ⟨_, e, _⟩ := pl.isList; exact Heap.lt_size e
  refine call_all_walk (wpAny_pyIter_list pl.isList ⟨_, _, _, _, _, _, fun i => bs[i]?.getD false, rfl, Walks.list hh s.heap.objs.size p (Nat.ne_of_lt lt) (bs.map Value.bool).toArray, ⟨⟨_, Heap.get?_push_size _ rfl, rfl, rfl⟩, ?_⟩, ?_, fun h' tk hk => ?_⟩)
  · obtain ⟨o, e, r⟩ := pl.isList
    exact ⟨o, Heap.get?_push_of_some _ e, r⟩
  · intro i v s' Q' E' hv hQ
    have hv' : (bs.map Value.bool)[i]? = some v := by simpa using hv
    rw [List.getElem?_map] at hv'
    cases hb : bs[i]? with
    | none => rw [hb] at hv'; cases hv'
    | some b =>
      rw [hb] at hv'
      cases hv'
      have hQ' : Q' (bs[i]?.getD false) s' := hQ
      rw [hb] at hQ'
      exact wpAny_truthy_bool hQ'
  · have hk' : ∀ b o, s.heap.get? b = some o → h'.get? b = some o := fun b o e => hk b o (by simp; exact Nat.ne_of_lt (Heap.lt_size e)) (Heap.get?_push_of_some _ e)
    refine ⟨.bl _, H, I.kept hk', ?_, q⟩
    show Value.bool _ = Value.bool _
    rw [List.size_toArray, List.length_map, range_all]
end
def Its (x : Str) : It := ⟨fun i H => i < x.cps.size, fun i H v H' => H' = H ∧ ∃ c, x.cps[i]? = some c ∧ v = .str ⟨#[c]⟩, fun i H => x.cps.size ≤ i⟩
def iStr (tl : TE) : TI := fun σ H R => tl σ H fun v H1 => ∃ x, v = .str x ∧ R (Its x) H1
end L2

set_option Elab.async false
set_option linter.all false
set_option maxRecDepth 100000
set_option maxHeartbeats 4000000
namespace L2
open PySem PySem.Spec PyProof.Rows
section
variable {X : Cx}
def rEqP (K : PySem.W.Frag) (neg : Bool) : R2 := fun x y H Q => ∃ (p b : Addr) (i j k l : Int), x = .ref p ∧ y = .ref b ∧ SqT K H p [.int i, .int j] ∧ SqT K H b [.int k, .int l] ∧ Q (.bl (if neg then !(decide (i = k) && decide (j = l)) else (decide (i = k) && decide (j = l)))) H
end
end L2

set_option Elab.async false
set_option linter.all false
set_option maxRecDepth 100000
set_option maxHeartbeats 4000000
namespace L2
open PySem PySem.Spec PyProof.Rows
def Ite (K : PySem.W.Frag) (a : Addr) : It :=
  ⟨fun i H => ∃ xs x, SqL K H a xs ∧ xs[i]? = some x,
   fun i H v H' => ∃ p x, v = .ref p ∧ H p = none ∧ H' = upd H p (.tup [.int (i : Int), x]) ∧ ∀ xs, SqL K H a xs → xs[i]? = some x,
   fun i H => ∃ xs, SqL K H a xs ∧ xs.length ≤ i⟩
theorem turn_enum {P : Program} {w : World} {K : PySem.W.Frag} {es : List Expr} {kk : Nat} {tpos : Pos} {a e it : Addr} (hne : e ≠ it) :
    Turn P w K (.Tuple es kk tpos) (Ite K a) [e, it] e (fun i h => (∃ old, IsEnum h e it (i : Int) old) ∧ h.IsListIter it a i) where
  mem := by simp
  obj := fun i h st c hb => by
    obtain ⟨⟨old, he⟩, h1⟩ := st
    simp only [List.mem_cons, List.not_mem_nil, or_false] at hb
    rcases hb with rfl | rfl
    · exact ⟨_, he, fun v e => nomatch e⟩
    · obtain ⟨o, e, _, d⟩ := h1; exact ⟨o, e, fun v z => by rw [d] at z; cases z⟩
  keep := fun i h h' st k => by
    obtain ⟨⟨old, he⟩, o, a, r⟩ := st
    exact ⟨⟨old, k e (by simp) _ he⟩, ⟨o, k it (by simp) o a, r⟩⟩
  item := by
    intro X hP hw hK hc i pins s σ H E I hf st hg
    subst hP hw hK
    obtain ⟨xs, x, q1, e1⟩ := hg
    obtain ⟨its1, r1, p1, z1⟩ := I.list q1
    obtain ⟨u1, eu1, ru1⟩ := r1.get e1
    obtain ⟨⟨old, he⟩, h1⟩ := st
    have lt : ∀ {c o}, s.heap.get? c = some o → s.heap.objs.size ≠ c := fun e => Nat.ne_of_gt (Heap.lt_size e)
    refine wpAny_pyNext_enum_item he h1 p1.isList (x := u1) (by simpa using eu1) hne fun h' a1 a2 a3 a4 hk => ?_
    refine ⟨_, rfl, wpAny_letOwnedTupleGo_enum a1 fun h'' b1 b2 => ?_⟩
    have b2' : Heap.SameBut e h' h'' := b2
    have kk : ∀ c o, c ∉ [e, it] → s.heap.get? c = some o → h''.get? c = some o := fun c o hc e => by
      simp only [List.mem_cons, List.not_mem_nil, or_false, not_or] at hc
      exact b2'.extBut _ _ hc.1 (hk c o hc.1 hc.2 e)
    have tT : h''.get? s.heap.objs.size = some { cls := .type "tuple", data := .seq #[.int i s.toks, u1] } := b2'.extBut _ _ (lt he) a3
    have nT : H s.heap.objs.size = none := I.hok.fresh (Nat.le_refl _)
    have I' : Inv X pins σ (upd H s.heap.objs.size (.tup [.int (i : Int), x])) { s with heap := h'', toks := s.toks + 1 } := I.turnedT (t' := s.toks + 1) (its := [.int i s.toks, u1]) hf kk (Nat.le_refl _) (.cons ⟨_, rfl⟩ (.cons ru1 .nil)) (by show 2 ≤ sizeLine; decide) ⟨_, tT, rfl, _, rfl⟩
    obtain ⟨o2, ho2, r2⟩ := a2
    refine ⟨.ref s.heap.objs.size, upd H s.heap.objs.size (.tup [.int (i : Int), x]), I', rfl, ⟨_, x, rfl, nT, rfl, fun xs' w1 => by rw [I.list_inj w1 q1]; exact e1⟩, ⟨⟨_, b1⟩, ⟨o2, b2'.extBut _ _ (Ne.symm hne) ho2, r2⟩⟩, fun c hc => ?_⟩
    obtain ⟨o, eo⟩ : ∃ o, s.heap.get? c = some o := by
      simp only [List.mem_cons, List.not_mem_nil, or_false] at hc
      rcases hc with rfl | rfl
      · exact ⟨_, he⟩
      · obtain ⟨o, e, _⟩ := h1; exact ⟨o, e⟩
    rw [upd_ne (Ne.symm (lt eo))]
    exact (hf c hc).1
  done := by
    intro X hP hw hK hc i pins s σ H E I hf st hg
    subst hP hw hK
    obtain ⟨xs, q1, e⟩ := hg
    obtain ⟨its1, r1, p1, z1⟩ := I.list q1
    obtain ⟨⟨old, he⟩, h1⟩ := st
    have l1 := r1.length
    refine wpAny_pyNext_enum_end (I.ok.hd hc) he h1 p1.isList (by simp; omega) fun h' hk => ⟨rfl, I.turnedL (t' := s.toks) hf fun c o hc e => ?_⟩
    simp only [List.mem_cons, List.not_mem_nil, or_false, not_or] at hc
    exact hk c o hc.2 e
  self := fun _ _ _ _ _ st h => by
    obtain ⟨⟨old, he⟩, _⟩ := st
    exact wpAny_pyIter_enum he h
theorem bt_enumerate : bootBuiltins "enumerate" = some (.type "enumerate") := by decide +kernel
def iEnum (K : PySem.W.Frag) (ta : TA) : TI := fun σ H R => ta σ H fun vs H1 => ∃ a, vs = [.ref a] ∧ (∃ xs, SqL K H1 a xs) ∧ R (Ite K a) H1
theorem pi_enum {X : Cx} {ea : Expr} {ta : TA} {p pos : Pos} {es : List Expr} {kk : Nat} {tpos : Pos} (hg : Gl X "enumerate") (hm : X.mg "enumerate" = none) (ha : PA X [ea] ta) (hs : starEach [ea] X.env = [(false, eval ea X.env)] := by rfl) :
    PI X (.Tuple es kk tpos) (.Call (.Name "enumerate" p) [ea] [] pos) (iEnum X.K ta) := by
  intro pins s σ H R I h
  refine Call_ (ld_blt I hg hm bt_enumerate (PyProof.Rows.callWith_type1 (thn (ha pos pins s σ H _ I h) fun us s1 ⟨vs, H1, I1, r1, q1⟩ => ?_) hs rfl))
  obtain ⟨a, e, ⟨xs, w1⟩, q⟩ := q1
  subst e
  obtain ⟨u, rfl, ru⟩ := vals1 r1
  cases ru
  obtain ⟨its1, r2, p1, z1⟩ := I1.list w1
  refine call_enumerate_list p1.isList fun h' he hi hsz hk => wpAny_pyIter_enum he ?_
  refine ⟨_, _, _, _, H1, rfl, I1.kept (t' := s1.toks) hk, turn_enum (a := a) (e := s1.heap.objs.size + 1) (it := s1.heap.objs.size) (Nat.succ_ne_self _), ⟨⟨_, he⟩, hi⟩, fun c hc => ?_, q⟩
  have hle : s1.heap.objs.size ≤ c := by
    simp only [List.mem_cons, List.not_mem_nil, or_false] at hc
    rcases hc with rfl | rfl <;> omega
  exact I1.fpOk hle (I1.hok.fresh hle)
theorem for_enum {K : PySem.W.Frag} {a : Addr} {xs : List V} {g : TG} {tb : TS} {D : Ends} {σ : St} {H : Hp} (Pv : Nat → St → Hp → Prop) (h0 : Pv 0 σ H) (hl : ∀ i σ H, i ≤ xs.length → Pv i σ H → SqL K H a xs)
    (hs : ∀ i x p σ H, xs[i]? = some x → Pv i σ H → H p = none → g (.ref p) σ (upd H p (.tup [.int (i : Int), x])) fun σ2 H2 => tb { D with nx := Pv (i + 1), ct := Pv (i + 1), bk := D.nx } σ2 H2) (hd : ∀ σ H, Pv xs.length σ H → D.nx σ H) :
    ∃ W : Nat → Nat → St → Hp → Prop, (∃ m, W 0 m σ H) ∧ ∀ i m σ H, W i m σ H →
      ((Ite K a).stop i H ∧ D.nx σ H) ∨ ((Ite K a).go i H ∧ ∃ N : St → Hp → Prop, (∀ σ' H', N σ' H' → ∃ m', m' < m ∧ W (i + 1) m' σ' H') ∧ ∀ x H', (Ite K a).yld i H x H' → g x σ H' fun σ2 H2 => tb { D with nx := N, ct := N, bk := D.nx } σ2 H2) := by
  refine ⟨fun i m σ H => m = xs.length - i ∧ i ≤ xs.length ∧ Pv i σ H, ⟨xs.length, by simp, Nat.zero_le _, h0⟩, ?_⟩
  rintro i m σ H ⟨rfl, hi, p⟩
  have q := hl i σ H hi p
  by_cases hlt : i < xs.length
  · refine .inr ⟨⟨xs, xs[i], q, by simp [hlt]⟩, Pv (i + 1), fun σ' H' p' => ⟨xs.length - (i + 1), by omega, rfl, hlt, p'⟩, fun x H' y => ?_⟩
    obtain ⟨pp, x', rfl, hp, rfl, e⟩ := y
    exact hs i x' pp σ H (e xs q) p hp
  · have e : i = xs.length := by omega
    subst e
    exact .inl ⟨⟨xs, q, Nat.le_refl _⟩, hd σ H p⟩
section
variable {X : Cx}
def rRevL (K : PySem.W.Frag) : V → Hp → VK → Prop := fun x H Q => ∃ a xs, x = .ref a ∧ SqL K H a xs ∧ ∀ p, H p = none → Q (.ref p) (upd H p (.lst xs.reverse))
def tRevL (K : PySem.W.Frag) (te : TE) : TE := fun σ H Q => te σ H fun x H1 => rRevL K x H1 Q
theorem pe_revL {e : Expr} {te : TE} {k : Nat} {p1 p2 p3 pos : Pos} (he : PE X e te) : PE X (.Subscript e (.Slice none none (some (.UnaryOp .USub (.Constant (.int 1) k p1) p2)) p3) pos) (tRevL X.K te) := by
  intro pins s σ H Q I h
  refine Subscript_ (thn (he pins s σ H _ I h) fun v s1 ⟨x, H1, I1, r1, q1⟩ => ?_)
  obtain ⟨a, xs, rfl, hx, q⟩ := q1
  cases r1
  refine wpAny_Slice ?_
  rw [evalPart_none]
  refine wpAny_pure (wpAny_pure ?_)
  rw [evalPart_some]
  refine thn ((pe_un un_neg pe_int : PE X (.UnaryOp .USub (.Constant (.int 1) k p1) p2) _) pins s1 σ H1 (fun x H' => x = .int (-1) ∧ H' = H1) I1 ⟨_, rfl, rfl, rfl⟩) fun vs s2 ⟨y, H2, I2, r2, e2, e3⟩ => ?_
  subst e2 e3
  obtain ⟨t, rfl⟩ := r2
  have I3 : Inv X pins σ H2 { s2 with heap := s2.heap.push { cls := .type "slice", data := .fields #[.none, .none, .int (-1) t] } } := I2.kept (t' := s2.toks) fun b ob q => Heap.get?_push_of_some _ q
  obtain ⟨its, r, ht, hz⟩ := I3.list hx
  have hlen := r.length
  refine tail_any (ops := [.ref a, .ref s2.heap.objs.size]) ht.isList.typeIs slot_list_getitem.lookup ?_ (by with_unfolding_all rfl)
  refine wpAny_getItem_list_slice ht.isList (Heap.IsSliceOf.new ..) .none .none (.int _ _) (by simp) ?_ (by rw [List.size_toArray] <;> omega)
  rw [PySem.W.krv_pick]
  refine ⟨.ref _, _, I3.laid (t' := s2.toks) (o := .lst xs.reverse) (fun b ob q => Heap.get?_push_of_some _ q) (Nat.le_refl _) ?_, rfl, q _ (I3.hok.fresh (Nat.le_refl _))⟩
  exact ⟨by rw [List.length_reverse]; exact hz, its.reverse, 0, r.reverse, Heap.get?_push_size _ rfl⟩
end
end L2

set_option Elab.async false
set_option linter.all false
set_option maxRecDepth 100000
set_option maxHeartbeats 4000000
namespace L2
open PySem PySem.Spec PyProof.Rows
abbrev IsZipA (h : Heap) (z TI TO T0 : Addr) (f1 : Bool) : Prop :=
  h.get? z = some { cls := .type "zip", dict := none, data := .fields #[rawInt T0, .bool f1, .bool false, .ref TI, .ref TO], slots := #[] }
section
variable {prog : Program} {w : World} {A : Around} {E : Value → Shared → Prop} {s : Shared}
end
def ZDrawn (N : Nat) (xs ys acc : Array Value) (h : Heap) (i : Nat) : Prop := acc.size = i ∧ ∀ j, j < i → ∃ T x y, acc[j]? = some (.ref T) ∧ xs[j]? = some x ∧ ys[j]? = some y ∧ IsPair h T x y ∧ N ≤ T
section
variable {prog : Program} {w : World} {A : Around} {R : Result → Shared → Prop}
end
section
variable {prog : Program} {w : World} {A : Around} {R : Result → Shared → Prop}
end
section
variable {prog : Program} {w : World} {A : Around} {E : Value → Shared → Prop} {s : Shared}
end
def tListZip (t1 t2 : Bool) (K : PySem.W.Frag) (ta : TA) : TE := fun σ H Q => ta σ H fun vs H1 => ∃ (a b : Addr) (xs ys : List V), vs = [.ref a, .ref b] ∧ Sq t1 K H1 a xs ∧ Sq t2 K H1 b ys ∧ xs.length = ys.length ∧
  ∀ (l : Addr) (zs : List V) (H' : Hp), Same H1 H' → H1 l = none → H' l = some (.lst zs) → zs.length = xs.length → (∀ (j : Nat) (x y : V), xs[j]? = some x → ys[j]? = some y → ∃ T : Addr, zs[j]? = some (.ref T) ∧ H' T = some (.tup [x, y])) → Q (.ref l) H'
end L2
namespace Lf
open PySem L2
mutual
theorem eqAt_data {X : Cx} {pins : List (Addr × Obj)} {σ : St} {H : Hp} {s : Shared} (I : Inv X pins σ H s) : ∀ (d : Dt) {v v' : V} {u u' : Value} {A : Around}, A.units + d.deep < cLine → IsD H d v → IsD H d v' → RelV v u → RelV v' u' → SeqAt.EqAt A s u u' true
  | .int i, v, v', u, u', A, _, h, h', r, r' => by
    cases (show v = .int i from h)
    cases (show v' = .int i from h')
    obtain ⟨t, rfl⟩ := r
    obtain ⟨t', rfl⟩ := r'
    have := SeqAt.EqAt.int_int (A := A) (s := s) i t i t'
    rw [beq_self_eq_true] at this
    exact this
  | .str x, v, v', u, u', A, _, h, h', r, r' => by
    cases (show v = .str x from h)
    cases (show v' = .str x from h')
    obtain ⟨t, rfl⟩ := r
    obtain ⟨t', rfl⟩ := r'
    have := SeqAt.EqAt.str_str (A := A) (s := s) x t x t'
    rw [beq_self_eq_true] at this
    exact this
  | .bl b, v, v', u, u', A, _, h, h', r, r' => by
    cases (show v = .bl b from h)
    cases (show v' = .bl b from h')
    cases r
    cases r'
    exact SeqAt.EqAt.same _
  | .tup ds, v, v', u, u', A, hA, h, h', r, r' => by
    obtain ⟨a, vs, rfl, ha, hv⟩ := h
    obtain ⟨b, ws, rfl, hb, hw⟩ := h'
    cases r
    cases r'
    by_cases hab : a = b
    · subst hab; exact SeqAt.EqAt.same _
    · obtain ⟨i1, r1, p1, z1⟩ := I.tuple (SqT.of (K := X.K) ha)
      obtain ⟨i2, r2, p2, z2⟩ := I.tuple (SqT.of (K := X.K) hb)
      have hd : A.units + (deepD ds + 1) < cLine := hA
      refine SeqAt.EqAt.of_refs hab ?_
      have q := SeqAt.RcAt.tuples (e := fun _ => true) p1 p2 (by omega) (eqAts_data I ds (A := A.in1) (by show A.units + 1 + deepD ds < cLine; omega) hv hw r1 r2)
      have n1 := r1.length
      have n2 := r2.length
      have l1 := hv.len
      have l2 := hw.len
      have e : ((List.range (min i1.toArray.size i2.toArray.size)).all (fun _ => true) && i1.toArray.size == i2.toArray.size) = true := by
        rw [Bool.and_eq_true]
        exact ⟨by simp, beq_iff_eq.mpr (by simp only [List.size_toArray]; omega)⟩
      rw [e] at q
      exact q
  | .lst ds, v, v', u, u', A, hA, h, h', r, r' => by
    obtain ⟨a, vs, rfl, ha, hv⟩ := h
    obtain ⟨b, ws, rfl, hb, hw⟩ := h'
    cases r
    cases r'
    by_cases hab : a = b
    · subst hab; exact SeqAt.EqAt.same _
    · obtain ⟨i1, r1, p1, z1⟩ := I.list (SqL.of (K := X.K) ha)
      obtain ⟨i2, r2, p2, z2⟩ := I.list (SqL.of (K := X.K) hb)
      have hd : A.units + (deepD ds + 1) < cLine := hA
      refine SeqAt.EqAt.of_refs hab ?_
      have n1 := r1.length
      have n2 := r2.length
      have l1 := hv.len
      have l2 := hw.len
      have q := SeqAt.RcAt.lists (e := fun _ => true) p1.isList p2.isList (by simp only [List.size_toArray]; omega) (by omega) (eqAts_data I ds (A := A.in1) (by show A.units + 1 + deepD ds < cLine; omega) hv hw r1 r2)
      have e : ((List.range i1.toArray.size).all (fun _ => true)) = true := by simp
      rw [e] at q
      exact q
theorem eqAts_data {X : Cx} {pins : List (Addr × Obj)} {σ : St} {H : Hp} {s : Shared} (I : Inv X pins σ H s) : ∀ (ds : List Dt) {vs ws : List V} {us us' : List Value} {A : Around}, A.units + deepD ds < cLine → IsDs H ds vs → IsDs H ds ws → Vals vs us → Vals ws us' →
    ∀ (j : Nat) (h1 : j < us.toArray.size) (h2 : j < us'.toArray.size), SeqAt.EqAt A s us.toArray[j] us'.toArray[j] true
  | [], _, _, us, _, _, _, h, h', r, r', j, h1, _ => by
    cases (show _ = [] from h)
    cases r
    simp at h1
  | d :: ds, _, _, us, us', A, hA, ⟨v, vr, e1, hv, hvs⟩, ⟨v', vr', e2, hw, hws⟩, r, r', j, h1, h2 => by
    subst e1
    subst e2
    cases r with
    | cons r1 r2 =>
    cases r' with
    | cons r1' r2' =>
    have hm : A.units + max d.deep (deepD ds) < cLine := hA
    cases j with
    | zero => exact eqAt_data I d (by omega) hv hw r1 r1'
    | succ j =>
      have := eqAts_data I ds (A := A) (by omega) hvs hws r2 r2' j (by simpa using h1) (by simpa using h2)
      simpa using this
end
def rSame (neg : Bool) : R2 := fun x y H Q => ∃ (d : Dt), d.deep ≤ 60 ∧ ((∃ ds, d = .lst ds) ∨ ∃ ds, d = .tup ds) ∧ IsD H d x ∧ IsD H d y ∧ Q (.bl neg) H
end Lf

set_option Elab.async false
set_option linter.all false
set_option maxRecDepth 100000
set_option maxHeartbeats 4000000
namespace L2
open PySem PySem.Spec PyProof.Rows
def rangeV (lo hi : Int) : List V := (List.range (hi - lo).toNat).map fun (k : Nat) => V.int (lo + (k : Int))
def tListRange (ta : TA) : TE := fun σ H Q => ta σ H fun vs H1 => ∃ lo hi : Int, vs = [.int lo, .int hi] ∧ 0 ≤ lo ∧ lo ≤ 1000000 ∧ 0 ≤ hi ∧ hi ≤ 1000000 ∧ ∀ l, H1 l = none → Q (.ref l) (upd H1 l (.lst (rangeV lo hi)))
end L2

set_option Elab.async false
set_option linter.all false
set_option maxRecDepth 100000
set_option maxHeartbeats 4000000
namespace L2
open PySem PySem.Spec PyProof.Rows
section
variable {prog : Program} {w : World} {A : Around} {E : Value → Shared → Prop} {s : Shared} {a₀ : Array Keyed}
end
section
variable {X : Cx}
theorem bt_sorted : bootBuiltins "sorted" = some (.builtin "sorted") := by decide +kernel
end
end L2

set_option Elab.async false
set_option linter.all false
set_option maxRecDepth 100000
set_option maxHeartbeats 4000000
namespace L2
open PySem PySem.Spec PyProof.Rows
section
variable {M : Model} {A : Around} {E : Value → Shared → Prop} {s : Shared}
end
def ownFn (scope : Scope) (x : Str) : Bool := scope.names.any fun y => y.1 == x && y.2 == .cell
def cxComp2 (X : Cx) (N' : List Str) (scope : Scope) (cl : List (Str × Addr)) (C : Addr) (s : Shared) (H : Hp) (ex : List Addr) : Cx := { cxComp X N' scope cl C s H ex with fn := ownFn scope }
structure CompScope2 (dsc scope : Scope) (N tgs : List Str) (outs : List Nat) (N' : List Str) : Prop where
  kind : scope.kind = .function
  names : ∀ x ∈ scope.names, x.2 = .local → scope.names.lookup x.1 = some .local
  sep : ∀ j ∈ outs, ∀ y ∈ scope.names, y.2 = .cell → y.1 ≠ N.getD j ""
  free : ∀ y ∈ scope.names, y.2 = .free → dsc.names.lookup y.1 = some .cell
  isN : N' = tgs ++ outs.map (fun j => N.getD j "")
  lts : ∀ j ∈ outs, j < N.length
  outF : ∀ j ∈ outs, scope.names.lookup (N.getD j "") = some .free
  nd : N'.Nodup
def cellAll (scope : Scope) : Scope := { scope with names := scope.names.map fun (n, k) => if k == .free then (n, .cell) else (n, k) }
section
variable {X : Cx} {pins : List (Addr × Obj)} {σ : St} {H2 : Hp} {s2 : Shared} {dsc scope : Scope} {tgs N' : List Str} {outs : List Nat} {cl : List (Str × Addr)} {fp : List Addr} {C D : Addr} {h1 : Heap} {tk : Nat} {mC : Str → Option Value}
end
section
variable {X : Cx} {tg elt iter : Expr} {ifs : List Expr} {dsc scope : Scope} {tgs N' : List Str} {outs : List Nat} {wi : TI} {g : TG} {tc : TT} {te : TE} {pos : Pos}
end
end L2

set_option Elab.async false
set_option linter.all false
set_option maxRecDepth 100000
set_option maxHeartbeats 4000000
namespace L2
open PySem PySem.Spec PyProof.Rows
section
variable {prog : Program} {w : World} {A : Around} {R : Result → Shared → Prop} {I : Addr} {fp wr : List Addr} {n : Nat} {P : Nat → Value → Prop} {St : Nat → Heap → Prop}
theorem minT_loop (W : Walks prog w A.in1 I fp wr n P St) (bt : Nat → Nat → Bool) (S : Addr) (C : Heap → Prop) (hC : ∀ h h' : Heap, C h → (∀ b o, b ∉ wr → b ≠ S → h.get? b = some o → h'.get? b = some o) → C h') (hcmp : ∀ i j vi vj (s : Shared) (Q : Value → Shared → Prop) (E : Value → Shared → Prop), C s.heap → P i vi → P j vj → Q (.bool (bt i j)) s → wpAny (model prog w) A.in1 (richCompare .Lt vi vj) Q E s) (hSf : S ∉ fp) :
    ∀ (k j : Nat) (s : Shared) (vb : Value) (c : Nat), C s.heap → n - (j + 1) = k → j + 1 ≤ n → St (j + 1) s.heap → P (argBest bt j) vb → s.heap.get? S = some { cls := .type "list", dict := none, data := .seq #[vb, vb] c, slots := #[] } →
    (∀ v h' tk, P (argBest bt (n - 1)) v → (∀ b o, b ∉ wr → b ≠ S → s.heap.get? b = some o → h'.get? b = some o) → R (.ok (.ret v)) { s with heap := h', toks := tk }) →
    codeAny (model prog w) A (.builtin "min.loop" ⟨[.ref I, .none, .ref S], []⟩) R s := by
  have hSw : S ∉ wr := fun h => hSf (W.sub _ h)
  have hname : (toString "min" ++ toString ".loop" : String) = "min.loop" := by decide
  intro k
  induction k with
  | zero =>
    intro j s vb c hc0 hk hj hst hPb hS hR
    have hin : j + 1 = n := by omega
    refine codeAny_builtin F.entry_min_loop ?_; rw [Around.under_plainId F.plain_min_loop _]
    show wpAny _ A.in1 (seqItems? (.ref S) >>= _) _ _ s; refine wpAny_bind (wpAny_seqItems hS rfl ?_)
    show wpAny _ A.in1 (tryCatch (pyNext (.ref I)) _ >>= _) _ _ s; refine wpAny_bind (wpAny_tryCatch (W.done s _ _ (hin ▸ hst) fun h' tk hk' => ?_))
    have hS' := hk' S _ hSw hS
    show wpAny _ A.in1 (updateSeq S (fun _ => #[]) >>= _) _ _ _; refine wpAny_bind ?_; refine wpAny_updateSeq hS' rfl (wpAny_bind (wpAny_letGo (wpAny_pure ?_)))
    exact hR vb _ tk (by rw [← hin]; exact hPb) fun b o hbw hbS e => (Heap.get?_update_other _ _ (Ne.symm hbS)).trans (hk' b o hbw e)
  | succ k ih =>
    intro j s vb c hc0 hk hj hst hPb hS hR
    have hlt : j + 1 < n := by omega
    refine codeAny_builtin F.entry_min_loop ?_; rw [Around.under_plainId F.plain_min_loop _]
    show wpAny _ A.in1 (seqItems? (.ref S) >>= _) _ _ s; refine wpAny_bind (wpAny_seqItems hS rfl ?_)
    show wpAny _ A.in1 (tryCatch (pyNext (.ref I)) _ >>= _) _ _ s; refine wpAny_bind (wpAny_tryCatch (W.item (j + 1) s _ _ hlt hst fun v h' tk hP hst' hk' => ?_))
    have hS' := hk' S _ hSw hS
    show wpAny _ A.in1 (tryCatch (holding [v, v] (richCompare .Lt v vb >>= _)) _ >>= _) _ _ _; refine wpAny_bind (wpAny_tryCatch (wpAny_holding (wpAny_bind (hcmp (j + 1) (argBest bt j) v vb _ _ _ (hC _ _ hc0 fun b o hb _ e => hk' b o hb e) hP hPb ?_))))
    refine wpAny_bind (wpAny_holding (wpAny_truthy_bool ?_)); refine wpAny_bind (wpAny_letGo (wpAny_pure ?_))
    cases hb : bt (j + 1) (argBest bt j) with
    | true =>
      simp only [if_true]; refine wpAny_bind ?_; refine wpAny_updateSeq hS' rfl (wpAny_bind (wpAny_letGo ?_)); rw [hname]
      refine wpAny_pure ⟨plainId_quiet F.plain_min_loop _, ih (j + 1) _ v _ (hC _ _ hc0 fun b o hb hbS e => (Heap.get?_update_other _ _ (Ne.symm hbS)).trans (hk' b o hb e)) (by omega) hlt (W.frame _ _ _ hst' fun b hbf o e => ?_) (by simp only [argBest, hb, if_true]; exact hP) (Heap.get?_update_self _ hS' rfl) fun v' h'' tk'' hP' hk'' => ?_⟩
      · exact (Heap.get?_update_other _ _ (fun h : S = b => hSf (by rw [h]; exact hbf))).trans e
      · exact hR v' h'' tk'' hP' fun b o hbw hbS e => hk'' b o hbw hbS ((Heap.get?_update_other _ _ (Ne.symm hbS)).trans (hk' b o hbw e))
    | false =>
      simp only [Bool.false_eq_true, if_false]; refine wpAny_bind (wpAny_letGo ?_); rw [hname]
      refine wpAny_pure ⟨plainId_quiet F.plain_min_loop _, ih (j + 1) _ vb c (hC _ _ hc0 fun b o hb _ e => hk' b o hb e) (by omega) hlt hst' (by simp only [argBest, hb, Bool.false_eq_true, if_false]; exact hPb) hS' fun v' h'' tk'' hP' hk'' => ?_⟩
      exact hR v' h'' tk'' hP' fun b o hbw hbS e => hk'' b o hbw hbS (hk' b o hbw e)
theorem minT_first (W : Walks prog w A.in1 I fp wr n P St) (bt : Nat → Nat → Bool) (S : Addr) (C : Heap → Prop) (hC : ∀ h h' : Heap, C h → (∀ b o, b ∉ wr → b ≠ S → h.get? b = some o → h'.get? b = some o) → C h') (hcmp : ∀ i j vi vj (s : Shared) (Q : Value → Shared → Prop) (E : Value → Shared → Prop), C s.heap → P i vi → P j vj → Q (.bool (bt i j)) s → wpAny (model prog w) A.in1 (richCompare .Lt vi vj) Q E s) (hSf : S ∉ fp) (hn : 0 < n) {s : Shared} {c : Nat} (hc0 : C s.heap) (hst : St 0 s.heap)
    (hS : s.heap.get? S = some { cls := .type "list", dict := none, data := .seq #[] c, slots := #[] })
    (hR : ∀ v h' tk, P (argBest bt (n - 1)) v → (∀ b o, b ∉ wr → b ≠ S → s.heap.get? b = some o → h'.get? b = some o) → R (.ok (.ret v)) { s with heap := h', toks := tk }) :
    codeAny (model prog w) A (.builtin "min.loop" ⟨[.ref I, .none, .ref S], []⟩) R s := by
  have hSw : S ∉ wr := fun h => hSf (W.sub _ h)
  have hname : (toString "min" ++ toString ".loop" : String) = "min.loop" := by decide
  refine codeAny_builtin F.entry_min_loop ?_; rw [Around.under_plainId F.plain_min_loop _]
  show wpAny _ A.in1 (seqItems? (.ref S) >>= _) _ _ s; refine wpAny_bind (wpAny_seqItems hS rfl ?_)
  show wpAny _ A.in1 (tryCatch (pyNext (.ref I)) _ >>= _) _ _ s; refine wpAny_bind (wpAny_tryCatch (W.item 0 s _ _ hn hst fun v h' tk hP hst' hk' => ?_))
  have hS' := hk' S _ hSw hS
  show wpAny _ A.in1 (updateSeq S (fun _ => #[v, v]) >>= _) _ _ _; refine wpAny_bind ?_; refine wpAny_updateSeq hS' rfl ?_; rw [hname]
  refine wpAny_pure ⟨plainId_quiet F.plain_min_loop _, minT_loop W bt S C hC hcmp hSf _ 0 _ v _ (hC _ _ hc0 fun b o hb hbS e => (Heap.get?_update_other _ _ (Ne.symm hbS)).trans (hk' b o hb e)) rfl hn (W.frame _ _ _ hst' fun b hbf o e => ?_) hP (Heap.get?_update_self _ hS' rfl) fun v' h'' tk'' hP' hk'' => ?_⟩
  · exact (Heap.get?_update_other _ _ (fun h : S = b => hSf (by rw [h]; exact hbf))).trans e
  · exact hR v' h'' tk'' hP' fun b o hbw hbS e => hk'' b o hbw hbS ((Heap.get?_update_other _ _ (Ne.symm hbS)).trans (hk' b o hbw e))
end
theorem argLeast (bt : Nat → Nat → Bool) (lt : Nat → Nat → Bool) (hbt : ∀ i j, bt i j = lt i j) (tr : ∀ i j k, lt j i = false → lt k j = false → lt k i = false) (ir : ∀ i, lt i i = false) (asy : ∀ i j, lt i j = true → lt j i = false) : ∀ n, argBest bt n ≤ n ∧ ∀ j, j ≤ n → lt j (argBest bt n) = false
  | 0 => ⟨Nat.le_refl _, fun j hj => by
    have : j = 0 := by omega
    subst this
    exact ir _⟩
  | n + 1 => by
    obtain ⟨h1, h2⟩ := argLeast bt lt hbt tr ir asy n
    show (if bt (n + 1) (argBest bt n) then n + 1 else argBest bt n) ≤ n + 1 ∧ ∀ j, j ≤ n + 1 → lt j (if bt (n + 1) (argBest bt n) then n + 1 else argBest bt n) = false
    rw [hbt]
    cases hb : lt (n + 1) (argBest bt n) with
    | true =>
      rw [if_pos rfl]
      refine ⟨Nat.le_refl _, fun j hj => ?_⟩
      by_cases c : j = n + 1
      · rw [c]; exact ir _
      · exact tr _ _ _ (asy _ _ hb) (h2 j (by omega))
    | false =>
      rw [if_neg (by decide)]
      refine ⟨by omega, fun j hj => ?_⟩
      by_cases c : j = n + 1
      · rw [c]; exact hb
      · exact h2 j (by omega)
section
variable {X : Cx}
theorem lex_trans : ∀ {a b c : List Int}, HT.lexLt b a = false → HT.lexLt c b = false → HT.lexLt c a = false
  | [], [], [], _, _ => rfl
  | [], [], _ :: _, _, h => h
  | [], _ :: _, [], _, _ => rfl
  | [], _ :: _, _ :: _, h, _ => HT.lexLt_cons_nil _ _
  | _ :: _, [], _, h, _ => by rw [HT.lexLt_nil_cons] at h; cases h
  | _ :: _, _ :: _, [], _, h => by rw [HT.lexLt_nil_cons] at h; cases h
  | x :: xs, y :: ys, z :: zs, h1, h2 => by
    rw [HT.lexLt_cons] at h1 h2 ⊢
    by_cases c1 : y = x
    · rw [if_pos c1] at h1
      by_cases c2 : z = y
      · rw [if_pos c2] at h2
        rw [if_pos (c2.trans c1)]
        exact lex_trans h1 h2
      · rw [if_neg c2] at h2
        rw [if_neg (fun e => c2 (e.trans c1.symm)), ← c1]
        exact h2
    · rw [if_neg c1] at h1
      have h1 := of_decide_eq_false h1
      by_cases c2 : z = y
      · rw [if_neg (fun e => c1 (c2.symm.trans e)), c2]
        exact decide_eq_false h1
      · rw [if_neg c2] at h2
        have h2 := of_decide_eq_false h2
        rw [if_neg (by omega)]
        exact decide_eq_false (by omega)
theorem lex_irrefl : ∀ a : List Int, HT.lexLt a a = false
  | [] => rfl
  | x :: xs => by rw [HT.lexLt_cons, if_pos rfl]; exact lex_irrefl xs
theorem lex_asym : ∀ {a b : List Int}, HT.lexLt a b = true → HT.lexLt b a = false
  | [], [], h => by cases h
  | [], _ :: _, _ => HT.lexLt_cons_nil _ _
  | _ :: _, [], h => by rw [HT.lexLt_cons_nil] at h; cases h
  | x :: xs, y :: ys, h => by
    rw [HT.lexLt_cons] at h ⊢
    by_cases c : x = y
    · rw [if_pos c] at h
      rw [if_pos c.symm]
      exact lex_asym h
    · rw [if_neg c] at h
      have h := of_decide_eq_true h
      rw [if_neg (fun e => c e.symm)]
      exact decide_eq_false (by omega)
theorem refs_of : ∀ {ts : List (Addr × List Int)} {us : List Value}, Vals (ts.map fun t => V.ref t.1) us → us = ts.map fun t => Value.ref t.1
  | [], _, r => by cases r; rfl
  | t :: ts, _, r => by
    cases r with
    | cons h r =>
      rw [List.map_cons, ← refs_of r]
      cases h
      rfl
set_option maxHeartbeats 8000000 in
theorem call_minT (hc : X.calm = true) (hu : X.A.units + 1 < cLine) : CallR X (.builtin "min") (fun xs H Q => ∃ (p : Addr) (ts : List (Addr × List Int)), xs = [.ref p] ∧ SqL X.K H p (ts.map fun t => V.ref t.1) ∧ (∀ t ∈ ts, SqT X.K H t.1 (t.2.map V.int)) ∧ ts ≠ [] ∧
    ∀ t, t ∈ ts → (∀ u ∈ ts, HT.lexLt u.2 t.2 = false) → Q (.ref t.1) H) := by
  intro pins s σ H xs us Q I r h
  obtain ⟨p, ts, rfl, hq, ht, hne, q⟩ := h
  obtain ⟨u, rfl, rx⟩ := vals1 r
  cases rx
  obtain ⟨its, r', pl, hz⟩ := I.list hq
  have hits := refs_of r'
  have pl' := pl.isList
  have hname : (toString "min" ++ toString ".loop" : String) = "min.loop" := by decide
  have hh : X.A.handled = none := I.ok.hd hc
  have hlt : p < s.heap.objs.size := by obtain ⟨_, e, _⟩ := pl'; exact Heap.lt_size e
  refine call_function_tree PySem.F.kind_min PySem.F.plain_min PySem.F.entry_min (PySem.F.args_min1 _) ?_
  show wpAny _ X.A.in1 (Builtin.Builtins.bindParams "min" ["key", "default"] 0 ⟨[], []⟩ >>= _) _ _ s
  refine wpAny_bind (wpAny_of_eq (show Builtin.Builtins.bindParams "min" ["key", "default"] 0 ⟨[], []⟩ = pure [none, none] from rfl) ?_)
  refine wpAny_bind (wpAny_pure ?_)
  refine wpAny_bind (wpAny_pyIter_list pl' ?_)
  refine wpAny_bind (wpAny_newObj_type ?_)
  have W := Walks.list (prog := X.prog) (w := X.w) (A := X.A.in1) hh s.heap.objs.size p (Nat.ne_of_lt hlt) its.toArray
  rw [hname]
  have old : ∀ b o, s.heap.get? b = some o → b ≠ s.heap.objs.size := fun b o e => Nat.ne_of_lt (Heap.lt_size e)
  refine wpAny_pure ⟨plainId_quiet PySem.F.plain_min_loop _, ?_⟩
  have hSf : (s.heap.push { cls := .type "list_iterator", data := .fields #[.ref p, .int 0 0] }).objs.size ∉ [s.heap.objs.size, p] := fun hm => by
    rw [Heap.size_push] at hm
    rcases List.mem_cons.mp hm with e | hm
    · exact absurd e (Nat.succ_ne_self _)
    · have := List.mem_singleton.mp hm
      exact absurd hlt (by rw [← this]; exact Nat.not_lt_of_le (Nat.le_succ _))
  have st : (s.heap.push { cls := .type "list_iterator", data := .fields #[.ref p, .int 0 0] }).IsListIter s.heap.objs.size p 0 ∧ (s.heap.push { cls := .type "list_iterator", data := .fields #[.ref p, .int 0 0] }).IsList p its.toArray := ⟨⟨_, Heap.get?_push_size _ rfl, rfl, rfl⟩, pl'.push _⟩
  have st' := W.frame 0 _ ((s.heap.push { cls := .type "list_iterator", data := .fields #[.ref p, .int 0 0] }).push { cls := .type "list", dict := none, data := .seq ([] : List Value).toArray }) st fun b _ o e => Heap.get?_push_of_some _ e
  have hsz : its.toArray.size = ts.length := by rw [List.size_toArray, hits, List.length_map]
  have hn : 0 < ts.length := List.length_pos_iff.mpr hne
  have get : ∀ {i : Nat} {v : Value}, its.toArray[i]? = some v → ∃ t, ts[i]? = some t ∧ v = .ref t.1 := fun {i v} e => by
    rw [List.getElem?_toArray, hits, List.getElem?_map] at e
    cases z : ts[i]? with
    | none => rw [z] at e; cases e
    | some t => rw [z] at e; cases e; exact ⟨t, rfl, rfl⟩
  refine minT_first W (fun i j => HT.lexLt (ts.getD i (0, [])).2 (ts.getD j (0, [])).2) _ (fun h => ∀ b o, s.heap.get? b = some o → h.get? b = some o) (fun h h' c k b o e => k b o (by simpa using old b o e) (by rw [Heap.size_push]; exact Nat.ne_of_lt (Nat.lt_succ_of_lt (Heap.lt_size e))) (c b o e)) ?_ hSf (by rw [hsz]; exact hn) (fun b o e => Heap.get?_push_of_some _ (Heap.get?_push_of_some _ e)) st' (Heap.get?_push_size _ rfl) fun v h' tk hP hk => ?_
  · intro i j vi vj s2 Q2 E2 hs hi hj q2
    obtain ⟨t, et, rfl⟩ := get hi
    obtain ⟨t2, et2, rfl⟩ := get hj
    have I2 : Inv X pins σ H { s with heap := s2.heap, toks := s2.toks } := I.kept hs
    obtain ⟨i1, r1, p1, _⟩ := I2.tuple (ht t (List.mem_of_getElem? et))
    obtain ⟨i2, r2, p2, _⟩ := I2.tuple (ht t2 (List.mem_of_getElem? et2))
    have a1 : IntsAre i1.toArray.toList t.2 := intsAre_of r1
    have a2 : IntsAre i2.toArray.toList t2.2 := intsAre_of r2
    refine HT.lt_tupInts (s := s2) p1 p2 a1 a2 (by show X.A.units + 1 < cLine; exact hu) ?_
    have e1 : ts.getD i (0, []) = t := by rw [List.getD_eq_getElem?_getD, et]; rfl
    have e2 : ts.getD j (0, []) = t2 := by rw [List.getD_eq_getElem?_getD, et2]; rfl
    rw [e1, e2] at q2
    exact q2
  · obtain ⟨h1, h2⟩ := argLeast (fun i j => HT.lexLt (ts.getD i (0, [])).2 (ts.getD j (0, [])).2) _ (fun _ _ => rfl) (fun i j k a b => lex_trans a b) (fun i => lex_irrefl _) (fun i j a => lex_asym a) (its.toArray.size - 1)
    obtain ⟨t, et, rfl⟩ := get hP
    have e1 : ts.getD (argBest (fun i j => HT.lexLt (ts.getD i (0, [])).2 (ts.getD j (0, [])).2) (its.toArray.size - 1)) (0, []) = t := by rw [List.getD_eq_getElem?_getD, et]; rfl
    refine ⟨.ref _, H, I.kept fun b o e => hk b o (by simpa using old b o e) ?_ (Heap.get?_push_of_some _ (Heap.get?_push_of_some _ e)), rfl, q t (List.mem_of_getElem? et) fun u hu2 => ?_⟩
    · rw [Heap.size_push]
      exact Nat.ne_of_lt (Nat.lt_succ_of_lt (Heap.lt_size e))
    · obtain ⟨j, hj⟩ := List.getElem?_of_mem hu2
      have hjl : j < ts.length := (List.getElem?_eq_some_iff.mp hj).1
      have := h2 j (by omega)
      rw [e1] at this
      have e3 : ts.getD j (0, []) = u := by rw [List.getD_eq_getElem?_getD, hj]; rfl
      rw [e3] at this
      exact this
end
def tListRange1 (ta : TA) : TE := fun σ H Q => ta σ H fun vs H1 => ∃ hi : Int, vs = [.int hi] ∧ 0 ≤ hi ∧ hi ≤ 1000000 ∧ ∀ l, H1 l = none → Q (.ref l) (upd H1 l (.lst (rangeV 0 hi)))
end L2

set_option linter.all false
set_option maxRecDepth 100000
namespace Lf
open PySem PySem.W PyProof.Rows
def krun {α : Type} (lt : Nat → Nat → Bool) : KasT α → α
  | .ret a => a
  | .ask i j k => krun lt (k (lt i j))
theorem krun_bind {α β : Type} (lt : Nat → Nat → Bool) : ∀ (t : KasT α) (f : α → KasT β), krun lt (t.bind f) = krun lt (f (krun lt t))
  | .ret a, f => rfl
  | .ask i j k, f => krun_bind lt (k (lt i j)) f
def kok {α : Type} (n : Nat) (lt : Nat → Nat → Bool) : KasT α → Prop
  | .ret _ => True
  | .ask i j k => i < n ∧ j < n ∧ kok n lt (k (lt i j))
theorem kok_bind {α β : Type} {n : Nat} {lt : Nat → Nat → Bool} : ∀ {t : KasT α} {f : α → KasT β}, kok n lt t → kok n lt (f (krun lt t)) → kok n lt (t.bind f)
  | .ret a, f, _, h => h
  | .ask i j k, f, ⟨a, b, c⟩, h => ⟨a, b, kok_bind (t := k (lt i j)) c h⟩
theorem krun_wp {α : Type} {n : Nat} {lt : Nat → Nat → Bool} {cmp : Nat → Nat → (Bool → Shared → Prop) → Shared → Prop} {s : Shared} (hc : ∀ i j (R : Bool → Shared → Prop), i < n → j < n → R (lt i j) s → cmp i j R s) {G : α → Shared → Prop} :
    ∀ (t : KasT α), kok n lt t → G (krun lt t) s → t.kasWp cmp G s
  | .ret a, _, hg => hg
  | .ask i j k, ⟨a, b, c⟩, hg => hc i j _ a b (krun_wp hc (k (lt i j)) c hg)
section
variable {lt : Nat → Nat → Bool}
structure Ord (lt : Nat → Nat → Bool) : Prop where
  tr : ∀ i j k, lt j i = false → lt k j = false → lt k i = false
  asy : ∀ i j, lt i j = true → lt j i = false
theorem Ord.rf (o : Ord lt) (i : Nat) : lt i i = false := by
  cases h : lt i i with
  | false => rfl
  | true => have := o.asy i i h; rw [h] at this; exact this
abbrev gk (p : Array Nat) (k : Nat) : Nat := p.getD k 0
theorem gk_eq {p q : Array Nat} {k j : Nat} (h : p[k]? = q[j]?) : gk p k = gk q j := by
  unfold gk
  rw [Array.getD_eq_getD_getElem?, Array.getD_eq_getD_getElem?, h]
def Srt (lt : Nat → Nat → Bool) (p : Array Nat) (n : Nat) : Prop := ∀ i j, i ≤ j → j < n → lt (gk p j) (gk p i) = false
def Dec (lt : Nat → Nat → Bool) (p : Array Nat) (n : Nat) : Prop := ∀ i j, i ≤ j → j < n → lt (gk p i) (gk p j) = false
theorem Srt.step (o : Ord lt) {p : Array Nat} {n : Nat} (h1 : 1 ≤ n) (h : Srt lt p n) (hn : lt (gk p n) (gk p (n - 1)) = false) : Srt lt p (n + 1) := by
  intro i j hij hj
  by_cases c : j = n
  · subst c
    by_cases d : i = j
    · subst d; exact o.rf _
    · exact o.tr _ _ _ (h i (j - 1) (by omega) (by omega)) hn
  · exact h i j hij (by omega)
theorem Dec.step (o : Ord lt) {p : Array Nat} {n : Nat} (h1 : 1 ≤ n) (h : Dec lt p n) (hn : lt (gk p (n - 1)) (gk p n) = false) : Dec lt p (n + 1) := by
  intro i j hij hj
  by_cases c : j = n
  · subst c
    by_cases d : i = j
    · subst d; exact o.rf _
    · exact o.tr _ _ _ hn (h i (j - 1) (by omega) (by omega))
  · exact h i j hij (by omega)
theorem gk_rev {p : Array Nat} {i j k : Nat} (hj : j ≤ p.size) : gk (kas_rev p i j) k = if i ≤ k ∧ k < j then gk p (i + j - 1 - k) else gk p k := by
  have := getElem?_mirror_all (xs := p) (i := i) (j := j) hj k
  by_cases c : i ≤ k ∧ k < j
  · rw [if_pos c] at this ⊢
    exact gk_eq this
  · rw [if_neg c] at this ⊢
    exact gk_eq this
theorem rev_size (p : Array Nat) (i j : Nat) : (kas_rev p i j).size = p.size := mirror_size _ _ _ _
theorem rev_perm (p : Array Nat) (i j : Nat) : (kas_rev p i j).Perm p := mirror_perm _ _ _ _
theorem Dec.turn {p : Array Nat} {n : Nat} (h : Dec lt p n) (hn : n ≤ p.size) : Srt lt (kas_rev p 0 n) n := by
  intro i j hij hj
  rw [gk_rev hn, gk_rev hn, if_pos ⟨by omega, by omega⟩, if_pos ⟨by omega, by omega⟩]
  exact h _ _ (by omega) (by omega)
theorem Dec.alike (o : Ord lt) {p : Array Nat} {a n : Nat} (h : Dec lt p n) (hn : n ≤ p.size) (he : ∀ i j, a ≤ i → i < n → a ≤ j → j < n → lt (gk p i) (gk p j) = false) : Dec lt (kas_rev p a n) n := by
  intro i j hij hj
  rw [gk_rev hn, gk_rev hn]
  by_cases c : a ≤ i ∧ i < n
  · rw [if_pos c, if_pos ⟨by omega, by omega⟩]
    exact he _ _ (by omega) (by omega) (by omega) (by omega)
  · rw [if_neg c]
    by_cases d : a ≤ j ∧ j < n
    · rw [if_pos d]
      exact h _ _ (by omega) (by omega)
    · rw [if_neg d]
      exact h _ _ hij hj
theorem asc_spec (o : Ord lt) {p : Array Nat} : ∀ (f n : Nat), 1 ≤ n → Srt lt p n → n ≤ krun lt (kas_asc p f n) ∧ krun lt (kas_asc p f n) ≤ n + f ∧ Srt lt p (krun lt (kas_asc p f n)) ∧ (krun lt (kas_asc p f n) = n + f ∨ lt (gk p (krun lt (kas_asc p f n))) (gk p (krun lt (kas_asc p f n) - 1)) = true)
  | 0, n, h1, h => ⟨Nat.le_refl _, Nat.le_refl _, h, .inl rfl⟩
  | f + 1, n, h1, h => by
    show n ≤ krun lt (if lt (p.getD n 0) (p.getD (n - 1) 0) = true then KasT.ret n else kas_asc p f (n + 1)) ∧ _ ≤ _ ∧ _ ∧ _
    have e : krun lt (kas_asc p (f + 1) n) = krun lt (if lt (p.getD n 0) (p.getD (n - 1) 0) = true then KasT.ret n else kas_asc p f (n + 1)) := rfl
    rw [e]
    cases hc : lt (p.getD n 0) (p.getD (n - 1) 0) with
    | true =>
      rw [if_pos rfl]
      exact ⟨Nat.le_refl _, Nat.le_add_right _ _, h, .inr hc⟩
    | false =>
      rw [if_neg (by decide)]
      obtain ⟨a, b, c, d⟩ := asc_spec o f (n + 1) (by omega) (h.step o h1 hc)
      refine ⟨by omega, by omega, c, ?_⟩
      rcases d with d | d
      · exact .inl (by omega)
      · exact .inr d
structure Fal (lt : Nat → Nat → Bool) (N : Nat) (p₀ p : Array Nat) (n q : Nat) : Prop where
  sz : p.size = p₀.size
  pm : p.Perm p₀
  dc : Dec lt p n
  q1 : q + 1 ≤ n
  nN : n ≤ N
  eq : ∀ i j, n - (q + 1) ≤ i → i < n → n - (q + 1) ≤ j → j < n → lt (gk p i) (gk p j) = false
theorem desc_spec (o : Ord lt) {N : Nat} {p₀ : Array Nat} (hN : N ≤ p₀.size) : ∀ (f : Nat) (p : Array Nat) (n q : Nat), n + f ≤ N → 1 ≤ n → Fal lt N p₀ p n q → Fal lt N p₀ (krun lt (kas_desc f p n q)).1 (krun lt (kas_desc f p n q)).2.1 (krun lt (kas_desc f p n q)).2.2 ∧ n ≤ (krun lt (kas_desc f p n q)).2.1
  | 0, p, n, q, _, _, h => ⟨h, Nat.le_refl _⟩
  | f + 1, p, n, q, hf, h1, h => by
    have e : krun lt (kas_desc (f + 1) p n q) = krun lt (if lt (p.getD n 0) (p.getD (n - 1) 0) = true then (if q > 0 then kas_desc f (kas_rev p (n - (q + 1)) n) (n + 1) 0 else kas_desc f p (n + 1) 0)
      else KasT.ask (p.getD (n - 1) 0) (p.getD n 0) fun d => if d = true then .ret (p, n, q) else kas_desc f p (n + 1) (q + 1)) := rfl
    rw [e]
    have hq := h.q1
    cases hc : lt (p.getD n 0) (p.getD (n - 1) 0) with
    | true =>
      rw [if_pos rfl]
      have hlt := o.asy _ _ hc
      by_cases cq : q > 0
      · rw [if_pos cq]
        have hnp : n ≤ p.size := by have := h.nN; rw [h.sz]; omega
        have d1 := h.dc.alike o hnp h.eq
        have g1 : gk (kas_rev p (n - (q + 1)) n) n = gk p n := by rw [gk_rev hnp, if_neg (by omega)]
        have g2 : gk (kas_rev p (n - (q + 1)) n) (n - 1) = gk p (n - (q + 1)) := by
          rw [gk_rev hnp, if_pos ⟨by omega, by omega⟩]
          congr 1
          omega
        have d2 : Dec lt (kas_rev p (n - (q + 1)) n) (n + 1) := d1.step o h1 (by
          rw [g1, g2]
          exact o.tr _ _ _ hlt (h.eq _ _ (by omega) (by omega) (by omega) (by omega)))
        obtain ⟨a, b⟩ := desc_spec o hN f (kas_rev p (n - (q + 1)) n) (n + 1) 0 (by omega) (by omega) ⟨by rw [rev_size]; exact h.sz, (rev_perm _ _ _).trans h.pm, d2, by omega, by omega, fun i j i1 i2 j1 j2 => by
          have : i = j := by omega
          subst this; exact o.rf _⟩
        exact ⟨a, by omega⟩
      · rw [if_neg cq]
        obtain ⟨a, b⟩ := desc_spec o hN f p (n + 1) 0 (by omega) (by omega) ⟨h.sz, h.pm, h.dc.step o h1 hlt, by omega, by omega, fun i j i1 i2 j1 j2 => by
          have : i = j := by omega
          subst this; exact o.rf _⟩
        exact ⟨a, by omega⟩
    | false =>
      rw [if_neg (by decide)]
      show Fal lt N p₀ (krun lt (if lt (p.getD (n - 1) 0) (p.getD n 0) = true then KasT.ret (p, n, q) else kas_desc f p (n + 1) (q + 1))).1 _ _ ∧ _
      have e2 : krun lt (KasT.ask (p.getD (n - 1) 0) (p.getD n 0) fun d => if d = true then .ret (p, n, q) else kas_desc f p (n + 1) (q + 1)) = krun lt (if lt (p.getD (n - 1) 0) (p.getD n 0) = true then KasT.ret (p, n, q) else kas_desc f p (n + 1) (q + 1)) := rfl
      rw [e2]
      cases hd : lt (p.getD (n - 1) 0) (p.getD n 0) with
      | true =>
        rw [if_pos rfl]
        exact ⟨h, Nat.le_refl _⟩
      | false =>
        rw [if_neg (by decide)]
        obtain ⟨a, b⟩ := desc_spec o hN f p (n + 1) (q + 1) (by omega) (by omega) ⟨h.sz, h.pm, h.dc.step o h1 hd, by omega, by omega, fun i j i1 i2 j1 j2 => by
          by_cases ci : i = n
          · by_cases cj : j = n
            · rw [ci, cj]; exact o.rf _
            · rw [ci]
              exact o.tr _ _ _ (h.eq (n - 1) j (by omega) (by omega) (by omega) (by omega)) hc
          · by_cases cj : j = n
            · rw [cj]
              exact o.tr _ _ _ hd (h.eq i (n - 1) (by omega) (by omega) (by omega) (by omega))
            · exact h.eq i j (by omega) (by omega) (by omega) (by omega)⟩
        exact ⟨a, by omega⟩
structure Cnt (lt : Nat → Nat → Bool) (N : Nat) (p₀ : Array Nat) (r : Nat × Array Nat) : Prop where
  sz : r.2.size = p₀.size
  pm : r.2.Perm p₀
  n1 : 1 ≤ r.1
  nN : r.1 ≤ N
  st : Srt lt r.2 r.1
theorem tail_spec (o : Ord lt) {N : Nat} {p₀ p : Array Nat} {n : Nat} (hN : N ≤ p₀.size) (h1 : 1 ≤ n) (hn : n ≤ N) (sz : p.size = p₀.size) (pm : p.Perm p₀) (dc : Dec lt p n) : Cnt lt N p₀ (krun lt (kas_tail3 n N p)) := by
  unfold kas_tail3
  rw [krun_bind]
  have s := dc.turn (by rw [sz]; omega)
  obtain ⟨a, b, c, _⟩ := asc_spec o (N - n) n h1 s
  exact ⟨by show (kas_rev p 0 n).size = _; rw [rev_size]; exact sz, (rev_perm _ _ _).trans pm, by show 1 ≤ krun lt _; omega, by show krun lt _ ≤ N; omega, c⟩
theorem descPart_spec (o : Ord lt) {N : Nat} {p₀ p : Array Nat} {n : Nat} (hN : N ≤ p₀.size) (h1 : 1 ≤ n) (hn : n + 1 ≤ N) (sz : p.size = p₀.size) (pm : p.Perm p₀) (dc : Dec lt p (n + 1)) : Cnt lt N p₀ (krun lt (kas_descPart n N p)) := by
  unfold kas_descPart
  rw [krun_bind]
  obtain ⟨a, b⟩ := desc_spec o hN (N - (n + 1)) p (n + 1) 0 (by omega) (by omega) ⟨sz, pm, dc, by omega, hn, fun i j i1 i2 j1 j2 => by
    have : i = j := by omega
    subst this; exact o.rf _⟩
  generalize krun lt (kas_desc (N - (n + 1)) p (n + 1) 0) = r at a b
  have hq := a.q1
  have hnN := a.nN
  have hsz := a.sz
  by_cases c : r.2.2 > 0
  · rw [if_pos c]
    exact tail_spec o hN (by omega) hnN (by rw [rev_size]; exact hsz) ((rev_perm _ _ _).trans a.pm) (a.dc.alike o (by omega) a.eq)
  · rw [if_neg c]
    exact tail_spec o hN (by omega) hnN hsz a.pm a.dc
theorem count_spec (o : Ord lt) {N : Nat} {p : Array Nat} (hN : N ≤ p.size) (h1 : 1 ≤ N) : Cnt lt N p (krun lt (kas_count N p)) := by
  unfold kas_count
  rw [krun_bind]
  obtain ⟨a, b, c, d⟩ := asc_spec o (p := p) (N - 1) 1 (Nat.le_refl _) (fun i j hij hj => by
    have : i = j := by omega
    subst this; exact o.rf _)
  generalize krun lt (kas_asc p (N - 1) 1) = n at a b c d
  by_cases cn : (n == N) = true
  · rw [if_pos cn]
    exact ⟨rfl, Array.Perm.refl _, a, by show n ≤ N; omega, c⟩
  · rw [if_neg cn]
    have hnN : n ≠ N := fun z => cn (by rw [z]; exact beq_self_eq_true _)
    have hlt : lt (gk p n) (gk p (n - 1)) = true := by
      rcases d with d | d
      · omega
      · exact d
    have hle := o.asy _ _ hlt
    by_cases c1 : n > 1
    · rw [if_pos c1]
      show Cnt lt N p (krun lt (if lt (p.getD 0 0) (p.getD (n - 1) 0) = true then KasT.ret (n, p) else kas_descPart n N (kas_rev p 0 n)))
      cases h0 : lt (p.getD 0 0) (p.getD (n - 1) 0) with
      | true =>
        rw [if_pos rfl]
        exact ⟨rfl, Array.Perm.refl _, a, by show n ≤ N; omega, c⟩
      | false =>
        rw [if_neg (by decide)]
        have all : ∀ i j, i < n → j < n → lt (gk p i) (gk p j) = false := fun i j hi hj => o.tr _ _ _ (c j (n - 1) (by omega) (by omega)) (o.tr _ _ _ h0 (c 0 i (by omega) hi))
        have hnp : n ≤ p.size := by omega
        refine descPart_spec o hN a (by omega) (rev_size _ _ _) (rev_perm _ _ _) ?_
        refine Dec.step o (by omega) (fun i j hij hj => ?_) ?_
        · rw [gk_rev hnp, gk_rev hnp, if_pos ⟨by omega, by omega⟩, if_pos ⟨by omega, by omega⟩]
          exact all _ _ (by omega) (by omega)
        · rw [gk_rev hnp, gk_rev hnp, if_pos ⟨by omega, by omega⟩, if_neg (by omega)]
          have e0 : 0 + n - 1 - (n - 1) = 0 := by omega
          rw [e0]
          exact o.tr _ _ _ hle h0
    · rw [if_neg c1]
      have e1 : n = 1 := by omega
      subst e1
      refine descPart_spec o hN (Nat.le_refl _) (by omega) rfl (Array.Perm.refl _) ?_
      exact Dec.step o (Nat.le_refl _) (fun i j hij hj => by
        have : i = j := by omega
        subst this; exact o.rf _) hle
theorem place_spec {p : Array Nat} {k : Nat} (o : Ord lt) (hs : Srt lt p k) : ∀ (f l r : Nat), r - l ≤ f → l ≤ r → r ≤ k → (∀ i, i < l → lt (gk p k) (gk p i) = false) → (∀ i, r ≤ i → i < k → lt (gk p i) (gk p k) = false) →
    krun lt (kas_place p k f l r) ≤ k ∧ (∀ i, i < krun lt (kas_place p k f l r) → lt (gk p k) (gk p i) = false) ∧ ∀ i, krun lt (kas_place p k f l r) ≤ i → i < k → lt (gk p i) (gk p k) = false
  | 0, l, r, hf, hlr, hr, h1, h2 => ⟨by show l ≤ k; omega, h1, fun i hi hk => h2 i (by have : l ≤ i := hi; omega) hk⟩
  | f + 1, l, r, hf, hlr, hr, h1, h2 => by
    have e : krun lt (kas_place p k (f + 1) l r) = krun lt (if l ≥ r then KasT.ret l else .ask (p.getD k 0) (p.getD ((l + r) / 2) 0) fun c => if c = true then kas_place p k f l ((l + r) / 2) else kas_place p k f ((l + r) / 2 + 1) r) := rfl
    rw [e]
    by_cases c : l ≥ r
    · rw [if_pos c]
      exact ⟨by show l ≤ k; omega, h1, fun i hi hk => h2 i (by have : l ≤ i := hi; omega) hk⟩
    · rw [if_neg c]
      have e2 : krun lt (.ask (p.getD k 0) (p.getD ((l + r) / 2) 0) fun c => if c = true then kas_place p k f l ((l + r) / 2) else kas_place p k f ((l + r) / 2 + 1) r) = krun lt (if lt (p.getD k 0) (p.getD ((l + r) / 2) 0) = true then kas_place p k f l ((l + r) / 2) else kas_place p k f ((l + r) / 2 + 1) r) := rfl
      rw [e2]
      cases hc : lt (p.getD k 0) (p.getD ((l + r) / 2) 0) with
      | true =>
        rw [if_pos rfl]
        refine place_spec o hs f l ((l + r) / 2) (by omega) (by omega) (by omega) h1 fun i hi hk => ?_
        exact o.tr _ _ _ (o.asy _ _ hc) (hs _ _ hi hk)
      | false =>
        rw [if_neg (by decide)]
        refine place_spec o hs f ((l + r) / 2 + 1) r (by omega) (by omega) hr (fun i hi => ?_) h2
        exact o.tr _ _ _ (hs i ((l + r) / 2) (by omega) (by omega)) hc
theorem gk_bubble {p : Array Nat} {k l j : Nat} (hk : k < p.size) (hl : l ≤ k) : gk (bubble p k (k - l)) j = if j = l then gk p k else if l < j ∧ j ≤ k then gk p (j - 1) else gk p j := by
  have := getElem?_bubble (xs := p) (src := k) hk (k - l) (by omega) j
  have e : k - (k - l) = l := by omega
  rw [e] at this
  by_cases c : j = l
  · rw [if_pos c] at this ⊢
    exact gk_eq this
  · rw [if_neg c] at this ⊢
    by_cases d : l < j ∧ j ≤ k
    · rw [if_pos d] at this ⊢
      exact gk_eq this
    · rw [if_neg d] at this ⊢
      exact gk_eq this
theorem bin_spec (o : Ord lt) {p₀ : Array Nat} : ∀ (f : Nat) (p : Array Nat) (k : Nat), 1 ≤ k → k + f ≤ p₀.size → p.size = p₀.size → p.Perm p₀ → Srt lt p k → (krun lt (kas_bin f p k)).Perm p₀ ∧ (krun lt (kas_bin f p k)).size = p₀.size ∧ Srt lt (krun lt (kas_bin f p k)) (k + f)
  | 0, p, k, _, _, sz, pm, hs => ⟨pm, sz, hs⟩
  | f + 1, p, k, h1, hk, sz, pm, hs => by
    show (krun lt ((kas_place p k k 0 k).bind fun l => kas_bin f (bubble p k (k - l)) (k + 1))).Perm p₀ ∧ (krun lt ((kas_place p k k 0 k).bind fun l => kas_bin f (bubble p k (k - l)) (k + 1))).size = p₀.size ∧ Srt lt (krun lt ((kas_place p k k 0 k).bind fun l => kas_bin f (bubble p k (k - l)) (k + 1))) (k + (f + 1))
    rw [krun_bind]
    obtain ⟨a, b, c⟩ := place_spec o hs k 0 k (by omega) (by omega) (Nat.le_refl _) (fun i hi => absurd hi (Nat.not_lt_zero _)) (fun i hi hk => by omega)
    generalize krun lt (kas_place p k k 0 k) = l at a b c
    have hkp : k < p.size := by omega
    have e3 : k + (f + 1) = (k + 1) + f := by omega
    rw [e3]
    refine bin_spec o f (bubble p k (k - l)) (k + 1) (by omega) (by omega) (by rw [bubble_size]; exact sz) ((bubble_perm _ _ _).trans pm) ?_
    intro i j hij hj
    rw [gk_bubble hkp a, gk_bubble hkp a]
    by_cases ci : i = l
    · rw [if_pos ci]
      by_cases cj : j = l
      · rw [if_pos cj]; exact o.rf _
      · rw [if_neg cj, if_pos ⟨by omega, by omega⟩]
        exact c (j - 1) (by omega) (by omega)
    · rw [if_neg ci]
      by_cases cj : j = l
      · rw [if_pos cj, if_neg (by omega)]
        exact b i (by omega)
      · rw [if_neg cj]
        by_cases di : l < i ∧ i ≤ k
        · rw [if_pos di, if_pos ⟨by omega, by omega⟩]
          exact hs _ _ (by omega) (by omega)
        · rw [if_neg di]
          by_cases dj : l < j ∧ j ≤ k
          · rw [if_pos dj]
            exact hs _ _ (by omega) (by omega)
          · rw [if_neg dj]
            exact hs _ _ hij (by omega)
theorem sort_spec (o : Ord lt) {n : Nat} (h2 : 2 ≤ n) : (krun lt (kas_sort n)).Perm (List.toArray (List.range n)) ∧ (krun lt (kas_sort n)).size = n ∧ Srt lt (krun lt (kas_sort n)) n := by
  unfold kas_sort
  rw [krun_bind]
  have hsz : (List.toArray (List.range n)).size = n := by rw [List.size_toArray, List.length_range]
  have h := count_spec o (N := n) (p := List.toArray (List.range n)) (by omega) (by omega)
  generalize krun lt (kas_count n (List.toArray (List.range n))) = r at h
  have a1 := h.n1
  have a2 := h.nN
  have a3 := h.sz
  by_cases c : r.1 < n
  · rw [if_pos c]
    have e : max r.1 1 = r.1 := by omega
    rw [e]
    obtain ⟨x, y, z⟩ := bin_spec o (n - r.1) r.2 r.1 a1 (by omega) a3 h.pm h.st
    refine ⟨x, y.trans hsz, ?_⟩
    have e2 : r.1 + (n - r.1) = n := by omega
    rw [e2] at z
    exact z
  · rw [if_neg c]
    refine ⟨h.pm, a3.trans hsz, ?_⟩
    have e : r.1 = n := by omega
    have := h.st
    rw [e] at this
    exact this
def Blw (n : Nat) (p : Array Nat) : Prop := 0 < n ∧ ∀ x ∈ p.toList, x < n
theorem Blw.at {n : Nat} {p : Array Nat} (h : Blw n p) (k : Nat) : p.getD k 0 < n := by
  rw [Array.getD_eq_getD_getElem?]
  cases e : p[k]? with
  | none => exact h.1
  | some x =>
    refine h.2 x ?_
    rw [← Array.getElem?_toList] at e
    exact List.mem_of_getElem? e
theorem Blw.perm {n : Nat} {p q : Array Nat} (h : Blw n p) (hp : q.Perm p) : Blw n q := ⟨h.1, fun x hx => h.2 x ((Array.perm_iff_toList_perm.mp hp).mem_iff.mp hx)⟩
theorem kok_asc {n : Nat} {p : Array Nat} (h : Blw n p) : ∀ (f m : Nat), kok n lt (kas_asc p f m)
  | 0, _ => trivial
  | f + 1, m => by
    refine ⟨h.at _, h.at _, ?_⟩
    show kok n lt (if lt (p.getD m 0) (p.getD (m - 1) 0) = true then KasT.ret m else kas_asc p f (m + 1))
    split
    · trivial
    · exact kok_asc h f (m + 1)
theorem kok_desc {n : Nat} : ∀ (f : Nat) (p : Array Nat) (m q : Nat), Blw n p → kok n lt (kas_desc f p m q)
  | 0, _, _, _, _ => trivial
  | f + 1, p, m, q, h => by
    refine ⟨h.at _, h.at _, ?_⟩
    show kok n lt (if lt (p.getD m 0) (p.getD (m - 1) 0) = true then _ else _)
    split
    · split
      · exact kok_desc f _ _ _ (h.perm (rev_perm _ _ _))
      · exact kok_desc f _ _ _ h
    · refine ⟨h.at _, h.at _, ?_⟩
      show kok n lt (if lt (p.getD (m - 1) 0) (p.getD m 0) = true then _ else _)
      split
      · trivial
      · exact kok_desc f _ _ _ h
theorem desc_perm {n : Nat} : ∀ (f : Nat) (p : Array Nat) (m q : Nat), Blw n p → Blw n (krun lt (kas_desc f p m q)).1
  | 0, _, _, _, h => h
  | f + 1, p, m, q, h => by
    show Blw n (krun lt (if lt (p.getD m 0) (p.getD (m - 1) 0) = true then (if q > 0 then kas_desc f (kas_rev p (m - (q + 1)) m) (m + 1) 0 else kas_desc f p (m + 1) 0)
      else KasT.ask (p.getD (m - 1) 0) (p.getD m 0) fun d => if d = true then .ret (p, m, q) else kas_desc f p (m + 1) (q + 1))).1
    split
    · split
      · exact desc_perm f _ _ _ (h.perm (rev_perm _ _ _))
      · exact desc_perm f _ _ _ h
    · show Blw n (krun lt (if lt (p.getD (m - 1) 0) (p.getD m 0) = true then KasT.ret (p, m, q) else kas_desc f p (m + 1) (q + 1))).1
      split
      · exact h
      · exact desc_perm f _ _ _ h
theorem kok_tail {n m N : Nat} {p : Array Nat} (h : Blw n p) : kok n lt (kas_tail3 m N p) := kok_bind (kok_asc (h.perm (rev_perm _ _ _)) _ _) trivial
theorem kok_descPart {n m N : Nat} {p : Array Nat} (h : Blw n p) : kok n lt (kas_descPart m N p) := by
  refine kok_bind (kok_desc _ _ _ _ h) ?_
  have := desc_perm (lt := lt) (N - (m + 1)) p (m + 1) 0 h
  split
  · exact kok_tail (this.perm (rev_perm _ _ _))
  · exact kok_tail this
theorem kok_count {n N : Nat} {p : Array Nat} (h : Blw n p) : kok n lt (kas_count N p) := by
  refine kok_bind (kok_asc h _ _) ?_
  split
  · trivial
  · split
    · refine ⟨h.at _, h.at _, ?_⟩
      dsimp only
      split
      · trivial
      · exact kok_descPart (h.perm (rev_perm _ _ _))
    · exact kok_descPart h
theorem kok_place {n k : Nat} {p : Array Nat} (h : Blw n p) : ∀ (f l r : Nat), kok n lt (kas_place p k f l r)
  | 0, _, _ => trivial
  | f + 1, l, r => by
    unfold kas_place
    split
    · trivial
    · refine ⟨h.at _, h.at _, ?_⟩
      dsimp only
      split
      · exact kok_place h f _ _
      · exact kok_place h f _ _
theorem kok_bin {n : Nat} : ∀ (f : Nat) (p : Array Nat) (k : Nat), Blw n p → kok n lt (kas_bin f p k)
  | 0, _, _, _ => trivial
  | f + 1, p, k, h => kok_bind (kok_place h _ _ _) (kok_bin f _ _ (h.perm (bubble_perm _ _ _)))
theorem kok_sort (o : Ord lt) {n : Nat} (h2 : 2 ≤ n) : kok n lt (kas_sort n) := by
  have hb : Blw n (List.toArray (List.range n)) := ⟨by omega, fun x hx => by simpa using hx⟩
  refine kok_bind (kok_count hb) ?_
  have hsz : (List.toArray (List.range n)).size = n := by rw [List.size_toArray, List.length_range]
  have h := count_spec o (N := n) (p := List.toArray (List.range n)) (by omega) (by omega)
  split
  · exact kok_bin _ _ _ (hb.perm h.pm)
  · trivial
end
end Lf

set_option Elab.async false
set_option linter.all false
set_option maxRecDepth 100000
set_option maxHeartbeats 4000000
namespace L2
open PySem PySem.Spec PyProof.Rows PySem.W
theorem lex_len : ∀ {ns ms : List Int} {fin : Bool}, fin = decide (ns.length < ms.length) → (ns = [] ∨ ms = []) → HT.lexLt ns ms = fin
  | [], [], _, h, _ => by rw [h]; rfl
  | [], _ :: _, _, h, _ => by rw [h, HT.lexLt_nil_cons]; exact (decide_eq_true (by simp)).symm
  | _ :: _, [], _, h, _ => by rw [h, HT.lexLt_cons_nil]; exact (decide_eq_false (by simp)).symm
  | _ :: _, _ :: _, _, _, h => by rcases h with h | h <;> cases h
section
variable {prog : Program} {w : World} {A : Around} {E : Value → Shared → Prop} {s : Shared}
theorem katLex_ints {fin : Bool} {Q : Bool → Shared → Prop} : ∀ {vs ws : List Value} {ns ms : List Int} (i : Nat), IntsAre vs ns → IntsAre ws ms → fin = decide (ns.length < ms.length) → Q (HT.lexLt ns ms) s → KatLex prog w A true fin Q (vs.zip ws) i s
  | _, _, _, _, i, .nil, _, hf, h => by
    rw [lex_len hf (.inl rfl)] at h
    exact kat_nil h
  | _, _, _, _, i, .cons _ _ _, .nil, hf, h => by
    rw [lex_len hf (.inr rfl)] at h
    exact kat_nil h
  | _, _, _, _, i, .cons x t hx, .cons y u hy, hf, h => by
    rw [List.zip_cons_cons]
    refine kat_cons (wpAny_eqBool_int ?_)
    rw [HT.lexLt_cons] at h
    by_cases c : x = y
    · rw [if_pos c] at h
      have e : (x == y) = true := by rw [c]; exact beq_self_eq_true _
      rw [e]
      refine kat_yes (katLex_ints (i + 1) hx hy ?_ h)
      rw [hf]
      simp
    · rw [if_neg c] at h
      have e : (x == y) = false := beq_eq_false_iff_ne.mpr c
      rw [e]
      refine kat_no ?_
      cases i with
      | zero => exact oneLt_int h
      | succ k => exact kat_one _ _ (lt_int h)
def TupI (h : Heap) (a : Addr) (ns : List Int) : Prop := ∃ its : List Value, IsTup h a its.toArray ∧ IntsAre its ns
theorem TupI.keep {h h' : Heap} {a : Addr} {ns : List Int} (x : TupI h a ns) (k : ∀ o, h.get? a = some o → h'.get? a = some o) : TupI h' a ns := by
  obtain ⟨its, ⟨o, ho, hc, n, hd⟩, hi⟩ := x
  exact ⟨its, ⟨o, k o ho, hc, n, hd⟩, hi⟩
theorem keyLt_tup {x y : Addr} {ns ms : List Int} {Q : Bool → Shared → Prop} (hx : TupI s.heap x ns) (hy : TupI s.heap y ms) (h : Q (HT.lexLt ns ms) s) : wpAny (model prog w) A (keyLt' (tuples' true) (.ref x) (.ref y)) Q E s := by
  obtain ⟨its, ⟨o, ho, hc, n, hd⟩, hi⟩ := hx
  obtain ⟨its2, ⟨o2, ho2, hc2, n2, hd2⟩, hi2⟩ := hy
  refine kat_lt ho hd ho2 hd2 (katLex_ints 0 hi hi2 ?_ h)
  rw [List.size_toArray, List.size_toArray]
  have a1 : its.length = ns.length := by rw [← hi.nums, List.length_map]
  have a2 : its2.length = ms.length := by rw [← hi2.nums, List.length_map]
  rw [a1, a2]
abbrev TI2 := Addr × List Int
def t0 : TI2 := (0, [])
def ltT (ts : List TI2) (i j : Nat) : Bool := HT.lexLt (ts.getD i t0).2 (ts.getD j t0).2
theorem ltT_ord (ts : List TI2) : Lf.Ord (ltT ts) := ⟨fun _ _ _ a b => lex_trans a b, fun _ _ a => lex_asym a⟩
theorem katTups_of {h : Heap} : ∀ {ts : List TI2}, (∀ t ∈ ts, TupI h t.1 t.2 ∧ t.2 ≠ []) → ∃ fs : List Value, KatTups h (ts.map fun t => Value.ref t.1) fs ∧ fs.length = ts.length ∧ ∀ v ∈ fs, ∃ x t, v = Value.int x t
  | [], _ => ⟨[], KatTups.nil, rfl, fun v hv => by cases hv⟩
  | (a0, ns0) :: ts, hT => by
    obtain ⟨fs, a, b, c⟩ := katTups_of (ts := ts) fun u hu => hT u (List.mem_cons_of_mem _ hu)
    obtain ⟨⟨its, ⟨o, ho, hc, n, hd⟩, hi⟩, hne⟩ := hT (a0, ns0) List.mem_cons_self
    dsimp only at hi ho hne
    cases hi with
    | nil => exact absurd rfl hne
    | @cons x tk vs ns hr =>
      refine ⟨Value.int x tk :: fs, KatTups.cons ho hc hd (by simp) a, by simp [b], fun v hv => ?_⟩
      rcases List.mem_cons.mp hv with e | e
      · exact ⟨x, tk, e⟩
      · exact c v e
set_option maxHeartbeats 8000000 in
theorem sort_tup {a : Addr} {ts : List TI2} {n : Nat} {P : Fin → Shared → Prop} (ho : s.heap.get? a = some (seqObj "list" (ts.map fun t => Value.ref t.1).toArray n)) (hT : ∀ t ∈ ts, TupI s.heap t.1 t.2 ∧ t.2 ≠ []) (hna : ∀ t ∈ ts, t.1 ≠ a) (h2 : 2 ≤ ts.length) (h64 : ts.length < 64)
    (q : ∀ us : List TI2, us.Perm ts → (us.Pairwise fun x y => HT.lexLt y.2 x.2 = false) → P (.done (.ret .none)) { s with heap := sortedHeap s.heap a (ts.map fun t => Value.ref t.1) (us.map fun t => Value.ref t.1).toArray }) : wpAny (model prog w) A (Builtin.«list.sort» ⟨[.ref a], []⟩) P E s := by
  generalize hvs : (ts.map fun t => Value.ref t.1) = vs at *
  have hlen : vs.length = ts.length := by rw [← hvs, List.length_map]
  rw [list_sort_plain]
  have ha : a < s.heap.objs.size := Heap.lt_size ho
  have hsz : vs.toArray.size = vs.length := by simp
  refine wpAny_bind (listItems_at ho rfl (wpAny_bind (listUpdate_at ho rfl ?_ (by rw [hsz, sizeLine_eq]; omega) (Nat.zero_le _))))
  obtain ⟨e1, ho1⟩ : ∃ e, (s.heap.update a (Obj.mapSeq fun _ => #[])).get? a = some (seqObj "list" #[] e) := ⟨_, get?_update_seq ho (fun _ => #[])⟩
  refine wpAny_bind (seqEpoch_at ho1 rfl (wpAny_bind (wpAny_newTuple (wpAny_bind (wpAny_newList (wpAny_holding ?_))))))
  have ho6 : (((s.heap.update a (Obj.mapSeq fun _ => #[])).push (seqObj "tuple" vs.toArray 0)).push (seqObj "list" #[] 0)).get? a = some (seqObj "list" #[] e1) := (Heap.get?_push_ne _ _ _ (by rw [size_push', Heap.size_update]; exact Nat.ne_of_lt (Nat.lt_succ_of_lt ha))).trans ((Heap.get?_push_ne _ _ _ (by rw [Heap.size_update]; exact Nat.ne_of_lt ha)).trans ho1)
  have keep : ∀ b o, b ≠ a → s.heap.get? b = some o → (((s.heap.update a (Obj.mapSeq fun _ => #[])).push (seqObj "tuple" vs.toArray 0)).push (seqObj "list" #[] 0)).get? b = some o := fun b o hb e => Heap.get?_push_of_some _ (Heap.get?_push_of_some _ ((Heap.get?_update_other _ _ (Ne.symm hb)).trans e))
  show wpAny (model prog w) A _ P E { s with heap := ((s.heap.update a (Obj.mapSeq fun _ => #[])).push (seqObj "tuple" vs.toArray 0)).push (seqObj "list" #[] 0) }
  have hT2 : ∀ t ∈ ts, TupI (((s.heap.update a (Obj.mapSeq fun _ => #[])).push (seqObj "tuple" vs.toArray 0)).push (seqObj "list" #[] 0)) t.1 t.2 ∧ t.2 ≠ [] := fun t ht => ⟨(hT t ht).1.keep fun o e => keep _ o (hna t ht) e, (hT t ht).2⟩
  dsimp only
  have hlt : ¬ vs.toArray.size < 2 := by omega
  rw [if_neg hlt, if_neg hlt]
  obtain ⟨fs, k1, k2, k3⟩ := katTups_of hT2
  rw [hvs] at k1
  refine wpAny_bind (kat_kind (T := Value.type "int") k1 (by omega) (fun v hv => ?_) rfl ?_)
  · obtain ⟨x, tk, rfl⟩ := k3 v hv
    exact fun A Q E s _ h => wpAny_pure h
  have hkind : tuples' (Value.type "int" != Value.type "tuple") = tuples' true := by
    have : (Value.type "int" != Value.type "tuple") = true := by decide +kernel
    rw [this]
  rw [hkind]
  obtain ⟨p1, p2, p3⟩ := Lf.sort_spec (ltT_ord ts) (n := vs.length) (by omega)
  refine wpAny_bind (wpAny_mono (kat_run (ks := vs) (vs := vs) (Q := fun st' s' => s' = { s with heap := ((s.heap.update a (Obj.mapSeq fun _ => #[])).push (seqObj "tuple" vs.toArray 0)).push (seqObj "list" #[] 0) } ∧ arrOf st' = (Lf.krun (ltT ts) (kas_sort vs.length)).map (kas_item (vs.toArray.zip vs.toArray)) ∧ failedOf st' = none)
    (G := fun p s' => p = Lf.krun (ltT ts) (kas_sort vs.length) ∧ s' = { s with heap := ((s.heap.update a (Obj.mapSeq fun _ => #[])).push (seqObj "tuple" vs.toArray 0)).push (seqObj "list" #[] 0) }) rfl (by omega) (by omega)
    (fun p st' s' a1 a2 a3 a4 => ⟨a4.2, by rw [← a4.1]; exact a2, a3⟩) (Lf.krun_wp (n := vs.length) (lt := ltT ts) (fun i j R hi hj hR => ?_) _ (Lf.kok_sort (ltT_ord ts) (by omega)) ⟨rfl, rfl⟩)) ?_ fun _ _ e => e)
  · have gi : ∀ i, i < vs.length → vs.getD i Value.none = .ref (ts.getD i t0).1 ∧ ts.getD i t0 ∈ ts := fun i hi => by
      have hi2 : i < ts.length := by omega
      rw [← hvs, List.getD_eq_getElem?_getD, List.getElem?_map, List.getD_eq_getElem?_getD, List.getElem?_eq_getElem hi2]
      exact ⟨rfl, List.getElem_mem _⟩
    obtain ⟨x1, x2⟩ := gi i hi
    obtain ⟨y1, y2⟩ := gi j hj
    show wpAny (model prog w) A (keyLt' _ (vs.getD i Value.none) (vs.getD j Value.none)) R _ _
    rw [x1, y1]
    exact keyLt_tup (hT2 _ x2).1 (hT2 _ y2).1 hR
  rintro ⟨⟨⟩, z⟩ s' ⟨rfl, har, hf⟩
  dsimp only
  have hout := kat_snds (ks := vs) (vs := vs) rfl har
  have hosz : ((arrOf z).map (·.2)).size = vs.length := by rw [hout, List.size_toArray, List.length_map, Array.length_toList, p2]
  refine wpAny_bind (seqEpoch_at ho6 rfl (wpAny_bind (listUpdate_at ho6 rfl ?_ (hsz2 := Nat.le_trans (Nat.le_of_eq hosz) (by rw [sizeLine_eq]; omega)))))
  rw [hf, hout]
  simp only [bne_self_eq_false, Bool.false_eq_true, if_false]
  have hus : ((Lf.krun (ltT ts) (kas_sort vs.length)).toList.map fun i => vs.getD i Value.none) = (((Lf.krun (ltT ts) (kas_sort vs.length)).toList.map fun i => ts.getD i t0)).map fun t => Value.ref t.1 := by
    rw [List.map_map]
    refine List.map_congr_left fun i hi => ?_
    have hi2 : i < vs.length := by
      have := (Array.perm_iff_toList_perm.mp p1).mem_iff.mp hi
      simpa using this
    have hi3 : i < ts.length := by omega
    show vs.getD i Value.none = Value.ref (ts.getD i t0).1
    rw [← hvs, List.getD_eq_getElem?_getD, List.getElem?_map, List.getD_eq_getElem?_getD, List.getElem?_eq_getElem hi3]
    rfl
  rw [hus]
  refine wpAny_pure (q _ ?_ ?_)
  · have a1 : ((Lf.krun (ltT ts) (kas_sort vs.length)).toList.map fun i => ts.getD i t0).Perm ((List.range vs.length).map fun i => ts.getD i t0) := (Array.perm_iff_toList_perm.mp p1).map _
    have a2 : ((List.range vs.length).map fun i => ts.getD i t0) = ts := by
      rw [hlen]
      refine List.ext_getElem? fun k => ?_
      rw [List.getElem?_map]
      by_cases hk : k < ts.length
      · rw [List.getElem?_range hk]
        show some (ts.getD k t0) = _
        rw [List.getD_eq_getElem?_getD, List.getElem?_eq_getElem hk]
        rfl
      · rw [List.getElem?_eq_none (l := List.range ts.length) (by rw [List.length_range]; omega), List.getElem?_eq_none (by omega)]
        rfl
    rw [a2] at a1
    exact a1
  · rw [List.pairwise_iff_getElem]
    intro i j hi hj hij
    rw [List.length_map, Array.length_toList, p2] at hi hj
    rw [List.getElem_map, List.getElem_map]
    have := p3 i j (Nat.le_of_lt hij) hj
    unfold Lf.gk at this
    rw [Array.getD_eq_getD_getElem?, Array.getD_eq_getD_getElem?, Array.getElem?_eq_getElem (by omega), Array.getElem?_eq_getElem (by omega)] at this
    simpa [ltT] using this
theorem sorted_tup {l : Addr} {ts : List TI2} {Q : Value → Shared → Prop} (hl : s.heap.IsList l (ts.map fun t => Value.ref t.1).toArray) (hT : ∀ t ∈ ts, TupI s.heap t.1 t.2 ∧ t.2 ≠ []) (h2 : 2 ≤ ts.length) (h64 : ts.length < 64)
    (q : ∀ us : List TI2, us.Perm ts → (us.Pairwise fun x y => HT.lexLt y.2 x.2 = false) → Q (.ref (s.heap.objs.size + 1)) { s with heap := sortedAll s.heap (ts.map fun t => Value.ref t.1) (us.map fun t => Value.ref t.1).toArray }) : wpAny (model prog w) A (call (.builtin "sorted") [.ref l]) Q E s := by
  refine Calls.call_function_entry kind_sorted plain_sorted entry_sorted (args_sorted1 _) ?_
  unfold Builtin.«sorted»
  refine wpAny_bind (m := checkCount "sorted" 1 1 _) (wpAny_pure (wpAny_bind (collect_list hl (wpAny_bind (wpAny_newList ?_)) (by rw [List.length_map, sizeLine_eq]; omega))))
  have hsz : ((s.heap.push (seqObj "list" #[] 0)).update s.heap.objs.size (Obj.mapSeq (· ++ (ts.map fun t => Value.ref t.1).toArray))).objs.size = s.heap.objs.size + 1 := (Heap.size_update ..).trans (size_push' ..)
  have hoL : (((s.heap.push (seqObj "list" #[] 0)).update s.heap.objs.size (Obj.mapSeq (· ++ (ts.map fun t => Value.ref t.1).toArray))).push (seqObj "list" (ts.map fun t => Value.ref t.1).toArray 0)).get? (s.heap.objs.size + 1) = some (seqObj "list" (ts.map fun t => Value.ref t.1).toArray 0) := hsz ▸ Heap.get?_push_size _ rfl
  have keep : ∀ b o, s.heap.get? b = some o → (((s.heap.push (seqObj "list" #[] 0)).update s.heap.objs.size (Obj.mapSeq (· ++ (ts.map fun t => Value.ref t.1).toArray))).push (seqObj "list" (ts.map fun t => Value.ref t.1).toArray 0)).get? b = some o := fun b o e =>
    Heap.get?_push_of_some _ ((Heap.get?_update_other _ _ (Nat.ne_of_gt (Heap.lt_size e))).trans (Heap.get?_push_of_some _ e))
  show wpAny _ _ _ _ _ { s with heap := ((s.heap.push (seqObj "list" #[] 0)).update s.heap.objs.size (Obj.mapSeq (· ++ (ts.map fun t => Value.ref t.1).toArray))).push (seqObj "list" (ts.map fun t => Value.ref t.1).toArray 0) }
  rw [hsz]
  exact wpAny_bind (wpAny_holding (wpAny_call_entry slot_list_sort ⟨_, hoL, rfl⟩ entry_list_sort (sort_tup hoL (fun t ht => ⟨(hT t ht).1.keep fun o e => keep _ o e, (hT t ht).2⟩) (fun t ht => by
    obtain ⟨its, ⟨o, ho, _⟩, _⟩ := (hT t ht).1
    exact Nat.ne_of_lt (Nat.lt_succ_of_lt (Heap.lt_size ho))) h2 h64 fun us c1 c2 => ⟨_, rfl, wpAny_pure ⟨_, rfl, q us c1 c2⟩⟩) (args_list_sort _)))
end
section
variable {X : Cx}
theorem vals_refs : ∀ (us : List TI2), Vals (us.map fun t => V.ref t.1) (us.map fun t => Value.ref t.1)
  | [] => .nil
  | t :: us => .cons rfl (vals_refs us)
theorem zip_snd (vs : List Value) : ((vs.toArray.zip vs.toArray).map (·.2)) = vs.toArray := by
  apply Array.toList_inj.mp
  rw [Array.toList_map, Array.toList_zip]
  simp only [List.toList_toArray]
  exact List.map_snd_zip (Nat.le_refl _)
theorem sort_few {prog : Program} {w : World} {A : Around} {E : Value → Shared → Prop} {s : Shared} {a : Addr} {vs : List Value} {n : Nat} {P : Fin → Shared → Prop} (ho : s.heap.get? a = some (seqObj "list" vs.toArray n)) (h2 : vs.length < 2)
    (q : P (.done (.ret .none)) { s with heap := sortedHeap s.heap a vs vs.toArray }) : wpAny (model prog w) A (Builtin.«list.sort» ⟨[.ref a], []⟩) P E s := by
  rw [list_sort_plain]
  have ha : a < s.heap.objs.size := Heap.lt_size ho
  have hsz : vs.toArray.size = vs.length := by simp
  refine wpAny_bind (listItems_at ho rfl (wpAny_bind (listUpdate_at ho rfl ?_ (by rw [hsz, sizeLine_eq]; omega) (Nat.zero_le _))))
  obtain ⟨e1, ho1⟩ : ∃ e, (s.heap.update a (Obj.mapSeq fun _ => #[])).get? a = some (seqObj "list" #[] e) := ⟨_, get?_update_seq ho (fun _ => #[])⟩
  refine wpAny_bind (seqEpoch_at ho1 rfl (wpAny_bind (wpAny_newTuple (wpAny_bind (wpAny_newList (wpAny_holding ?_))))))
  have ho6 : (((s.heap.update a (Obj.mapSeq fun _ => #[])).push (seqObj "tuple" vs.toArray 0)).push (seqObj "list" #[] 0)).get? a = some (seqObj "list" #[] e1) := (Heap.get?_push_ne _ _ _ (by rw [size_push', Heap.size_update]; exact Nat.ne_of_lt (Nat.lt_succ_of_lt ha))).trans ((Heap.get?_push_ne _ _ _ (by rw [Heap.size_update]; exact Nat.ne_of_lt ha)).trans ho1)
  show wpAny (model prog w) A _ P E { s with heap := ((s.heap.update a (Obj.mapSeq fun _ => #[])).push (seqObj "tuple" vs.toArray 0)).push (seqObj "list" #[] 0) }
  dsimp only
  have hlt : vs.toArray.size < 2 := by omega
  rw [if_pos hlt, if_pos hlt]
  refine wpAny_bind (wpAny_pure ?_)
  rw [StateT.run_pure]
  have hz : ((vs.toArray.zip vs.toArray).map (·.2)).size ≤ sizeLine := by rw [zip_snd, hsz, sizeLine_eq]; omega
  refine wpAny_bind (wpAny_pure (wpAny_bind (seqEpoch_at ho6 rfl (wpAny_bind (listUpdate_at ho6 rfl ?_ (hsz2 := Nat.le_succ_of_le hz))))))
  simp only [bne_self_eq_false, Bool.false_eq_true, if_false]
  refine wpAny_pure ?_
  have e : (arrOf (SortSt.mk' general' (vs.toArray.zip vs.toArray) #[] 7 none)).map (·.2) = vs.toArray := zip_snd vs
  rw [e]
  exact q
theorem sorted_few {prog : Program} {w : World} {A : Around} {E : Value → Shared → Prop} {s : Shared} {l : Addr} {vs : List Value} {Q : Value → Shared → Prop} (hl : s.heap.IsList l vs.toArray) (h2 : vs.length < 2)
    (q : Q (.ref (s.heap.objs.size + 1)) { s with heap := sortedAll s.heap vs vs.toArray }) : wpAny (model prog w) A (call (.builtin "sorted") [.ref l]) Q E s := by
  refine Calls.call_function_entry kind_sorted plain_sorted entry_sorted (args_sorted1 _) ?_
  unfold Builtin.«sorted»
  refine wpAny_bind (m := checkCount "sorted" 1 1 _) (wpAny_pure (wpAny_bind (collect_list hl (wpAny_bind (wpAny_newList ?_)) (by rw [sizeLine_eq]; omega))))
  have hsz : ((s.heap.push (seqObj "list" #[] 0)).update s.heap.objs.size (Obj.mapSeq (· ++ vs.toArray))).objs.size = s.heap.objs.size + 1 := (Heap.size_update ..).trans (size_push' ..)
  have hoL : (((s.heap.push (seqObj "list" #[] 0)).update s.heap.objs.size (Obj.mapSeq (· ++ vs.toArray))).push (seqObj "list" vs.toArray 0)).get? (s.heap.objs.size + 1) = some (seqObj "list" vs.toArray 0) := hsz ▸ Heap.get?_push_size _ rfl
  show wpAny _ _ _ _ _ { s with heap := ((s.heap.push (seqObj "list" #[] 0)).update s.heap.objs.size (Obj.mapSeq (· ++ vs.toArray))).push (seqObj "list" vs.toArray 0) }
  rw [hsz]
  exact wpAny_bind (wpAny_holding (wpAny_call_entry slot_list_sort ⟨_, hoL, rfl⟩ entry_list_sort (sort_few hoL h2 ⟨_, rfl, wpAny_pure ⟨_, rfl, q⟩⟩) (args_list_sort _)))
theorem call_sortedT : CallR X (.builtin "sorted") (fun xs H Q => ∃ (p : Addr) (ts : List TI2), xs = [.ref p] ∧ SqL X.K H p (ts.map fun t => V.ref t.1) ∧ (∀ t ∈ ts, SqT X.K H t.1 (t.2.map V.int) ∧ t.2 ≠ []) ∧ ts.length < 64 ∧
    ∀ us : List TI2, us.Perm ts → (us.Pairwise fun x y => HT.lexLt y.2 x.2 = false) → ∀ l, H l = none → Q (.ref l) (upd H l (.lst (us.map fun t => V.ref t.1)))) := by
  intro pins s σ H xs us Q I r h
  obtain ⟨p, ts, rfl, hq, hT, h64, q⟩ := h
  obtain ⟨u, rfl, rx⟩ := vals1 r
  cases rx
  obtain ⟨its, r', pl, hz'⟩ := I.list hq
  have hits := refs_of r'
  have pl' := pl.isList
  rw [hits] at pl'
  by_cases h2 : ts.length < 2
  · refine sorted_few pl' (by rw [List.length_map]; exact h2) ?_
    obtain ⟨e, he⟩ := sortedAll_at s.heap (ts.map fun t => Value.ref t.1) (ts.map fun t => Value.ref t.1).toArray
    refine ⟨.ref (s.heap.objs.size + 1), _, I.laid (t' := s.toks) (fun _ _ => sortedAll_old) (Nat.le_succ _) (show ObjOk X.prog X.w _ _ _ (.lst (ts.map fun t => V.ref t.1)) from ⟨hz', ts.map fun t => Value.ref t.1, e, vals_refs ts, he⟩), rfl, q ts (List.Perm.refl _) ?_ _ (I.hok.fresh (Nat.le_succ _))⟩
    match ts, h2 with
    | [], _ => exact List.Pairwise.nil
    | [t], _ => exact List.pairwise_singleton _ _
  refine sorted_tup pl' (fun t ht => ?_) (by omega) h64 fun us c1 c2 => ?_
  · obtain ⟨i1, r1, p1, _⟩ := I.tuple (hT t ht).1
    exact ⟨⟨i1, p1, intsAre_of r1⟩, (hT t ht).2⟩
  obtain ⟨e, he⟩ := sortedAll_at s.heap (ts.map fun t => Value.ref t.1) (us.map fun t => Value.ref t.1).toArray
  have hlen : us.length = ts.length := c1.length_eq
  refine ⟨.ref (s.heap.objs.size + 1), _, I.laid (t' := s.toks) (fun _ _ => sortedAll_old) (Nat.le_succ _) (show ObjOk X.prog X.w _ _ _ (.lst (us.map fun t => V.ref t.1)) from ⟨by rw [List.length_map, hlen]; rw [List.length_map] at hz'; exact hz', us.map fun t => Value.ref t.1, e, vals_refs us, he⟩), rfl, q us c1 c2 _ (I.hok.fresh (Nat.le_succ _))⟩
end
end L2

set_option Elab.async false
set_option linter.all false
set_option maxRecDepth 100000
set_option maxHeartbeats 4000000
namespace L2
open PySem PySem.Spec PyProof.Rows PySem.W
section
variable {prog : Program} {w : World} {A : Around} {E : Value → Shared → Prop} {s : Shared} {x : Str}
def TupW (x : Str) (h : Heap) (a : Addr) (ns : List Int) : Prop := ∃ (tk : Tok) (its : List Value), IsTup h a (Value.str x tk :: its).toArray ∧ IntsAre its ns
theorem TupW.keep {h h' : Heap} {a : Addr} {ns : List Int} (q : TupW x h a ns) (k : ∀ o, h.get? a = some o → h'.get? a = some o) : TupW x h' a ns := by
  obtain ⟨tk, its, ⟨o, ho, hc, n, hd⟩, hi⟩ := q
  exact ⟨tk, its, ⟨o, k o ho, hc, n, hd⟩, hi⟩
theorem keyLt_tupW {a b : Addr} {ns ms : List Int} {Q : Bool → Shared → Prop} (hx : TupW x s.heap a ns) (hy : TupW x s.heap b ms) (h : Q (HT.lexLt ns ms) s) : wpAny (model prog w) A (keyLt' (tuples' true) (.ref a) (.ref b)) Q E s := by
  obtain ⟨tk, its, ⟨o, ho, hc, n, hd⟩, hi⟩ := hx
  obtain ⟨tk2, its2, ⟨o2, ho2, hc2, n2, hd2⟩, hi2⟩ := hy
  refine kat_lt ho hd ho2 hd2 ?_
  show KatLex _ _ _ _ _ _ ((Value.str x tk, Value.str x tk2) :: its.zip its2) _ _
  refine kat_cons (eqBool_str ?_)
  rw [beq_self_eq_true]
  refine kat_yes (katLex_ints _ hi hi2 ?_ h)
  rw [List.size_toArray, List.size_toArray]
  have a1 : its.length = ns.length := by rw [← hi.nums, List.length_map]
  have a2 : its2.length = ms.length := by rw [← hi2.nums, List.length_map]
  rw [List.length_cons, List.length_cons, a1, a2]
  simp
theorem katTupsW_of {h : Heap} : ∀ {ts : List TI2}, (∀ t ∈ ts, TupW x h t.1 t.2) → ∃ fs : List Value, KatTups h (ts.map fun t => Value.ref t.1) fs ∧ fs.length = ts.length ∧ ∀ v ∈ fs, ∃ t, v = Value.str x t
  | [], _ => ⟨[], KatTups.nil, rfl, fun v hv => by cases hv⟩
  | (a0, ns0) :: ts, hT => by
    obtain ⟨fs, a, b, c⟩ := katTupsW_of (ts := ts) fun u hu => hT u (List.mem_cons_of_mem _ hu)
    obtain ⟨tk, its, ⟨o, ho, hc, n, hd⟩, hi⟩ := hT (a0, ns0) List.mem_cons_self
    refine ⟨Value.str x tk :: fs, KatTups.cons ho hc hd (by simp) a, by simp [b], fun v hv => ?_⟩
    rcases List.mem_cons.mp hv with e | e
    · exact ⟨tk, e⟩
    · exact c v e
set_option maxHeartbeats 8000000 in
theorem sort_tupW {a : Addr} {ts : List TI2} {n : Nat} {P : Fin → Shared → Prop} (ho : s.heap.get? a = some (seqObj "list" (ts.map fun t => Value.ref t.1).toArray n)) (hT : ∀ t ∈ ts, TupW x s.heap t.1 t.2) (hna : ∀ t ∈ ts, t.1 ≠ a) (h2 : 2 ≤ ts.length) (h64 : ts.length < 64)
    (q : ∀ us : List TI2, us.Perm ts → (us.Pairwise fun x y => HT.lexLt y.2 x.2 = false) → P (.done (.ret .none)) { s with heap := sortedHeap s.heap a (ts.map fun t => Value.ref t.1) (us.map fun t => Value.ref t.1).toArray }) : wpAny (model prog w) A (Builtin.«list.sort» ⟨[.ref a], []⟩) P E s := by
  generalize hvs : (ts.map fun t => Value.ref t.1) = vs at *
  have hlen : vs.length = ts.length := by rw [← hvs, List.length_map]
  rw [list_sort_plain]
  have ha : a < s.heap.objs.size := Heap.lt_size ho
  have hsz : vs.toArray.size = vs.length := by simp
  refine wpAny_bind (listItems_at ho rfl (wpAny_bind (listUpdate_at ho rfl ?_ (by rw [hsz, sizeLine_eq]; omega) (Nat.zero_le _))))
  obtain ⟨e1, ho1⟩ : ∃ e, (s.heap.update a (Obj.mapSeq fun _ => #[])).get? a = some (seqObj "list" #[] e) := ⟨_, get?_update_seq ho (fun _ => #[])⟩
  refine wpAny_bind (seqEpoch_at ho1 rfl (wpAny_bind (wpAny_newTuple (wpAny_bind (wpAny_newList (wpAny_holding ?_))))))
  have ho6 : (((s.heap.update a (Obj.mapSeq fun _ => #[])).push (seqObj "tuple" vs.toArray 0)).push (seqObj "list" #[] 0)).get? a = some (seqObj "list" #[] e1) := (Heap.get?_push_ne _ _ _ (by rw [size_push', Heap.size_update]; exact Nat.ne_of_lt (Nat.lt_succ_of_lt ha))).trans ((Heap.get?_push_ne _ _ _ (by rw [Heap.size_update]; exact Nat.ne_of_lt ha)).trans ho1)
  have keep : ∀ b o, b ≠ a → s.heap.get? b = some o → (((s.heap.update a (Obj.mapSeq fun _ => #[])).push (seqObj "tuple" vs.toArray 0)).push (seqObj "list" #[] 0)).get? b = some o := fun b o hb e => Heap.get?_push_of_some _ (Heap.get?_push_of_some _ ((Heap.get?_update_other _ _ (Ne.symm hb)).trans e))
  show wpAny (model prog w) A _ P E { s with heap := ((s.heap.update a (Obj.mapSeq fun _ => #[])).push (seqObj "tuple" vs.toArray 0)).push (seqObj "list" #[] 0) }
  have hT2 : ∀ t ∈ ts, TupW x (((s.heap.update a (Obj.mapSeq fun _ => #[])).push (seqObj "tuple" vs.toArray 0)).push (seqObj "list" #[] 0)) t.1 t.2 := fun t ht => (hT t ht).keep fun o e => keep _ o (hna t ht) e
  dsimp only
  have hlt : ¬ vs.toArray.size < 2 := by omega
  rw [if_neg hlt, if_neg hlt]
  obtain ⟨fs, k1, k2, k3⟩ := katTupsW_of hT2
  rw [hvs] at k1
  refine wpAny_bind (kat_kind (T := Value.type "str") k1 (by omega) (fun v hv => ?_) rfl ?_)
  · obtain ⟨tk, rfl⟩ := k3 v hv
    exact fun A Q E s _ h => wpAny_pure h
  have hkind : tuples' (Value.type "str" != Value.type "tuple") = tuples' true := by
    have : (Value.type "str" != Value.type "tuple") = true := by decide +kernel
    rw [this]
  rw [hkind]
  obtain ⟨p1, p2, p3⟩ := Lf.sort_spec (ltT_ord ts) (n := vs.length) (by omega)
  refine wpAny_bind (wpAny_mono (kat_run (ks := vs) (vs := vs) (Q := fun st' s' => s' = { s with heap := ((s.heap.update a (Obj.mapSeq fun _ => #[])).push (seqObj "tuple" vs.toArray 0)).push (seqObj "list" #[] 0) } ∧ arrOf st' = (Lf.krun (ltT ts) (kas_sort vs.length)).map (kas_item (vs.toArray.zip vs.toArray)) ∧ failedOf st' = none)
    (G := fun p s' => p = Lf.krun (ltT ts) (kas_sort vs.length) ∧ s' = { s with heap := ((s.heap.update a (Obj.mapSeq fun _ => #[])).push (seqObj "tuple" vs.toArray 0)).push (seqObj "list" #[] 0) }) rfl (by omega) (by omega)
    (fun p st' s' a1 a2 a3 a4 => ⟨a4.2, by rw [← a4.1]; exact a2, a3⟩) (Lf.krun_wp (n := vs.length) (lt := ltT ts) (fun i j R hi hj hR => ?_) _ (Lf.kok_sort (ltT_ord ts) (by omega)) ⟨rfl, rfl⟩)) ?_ fun _ _ e => e)
  · have gi : ∀ i, i < vs.length → vs.getD i Value.none = .ref (ts.getD i t0).1 ∧ ts.getD i t0 ∈ ts := fun i hi => by
      have hi2 : i < ts.length := by omega
      rw [← hvs, List.getD_eq_getElem?_getD, List.getElem?_map, List.getD_eq_getElem?_getD, List.getElem?_eq_getElem hi2]
      exact ⟨rfl, List.getElem_mem _⟩
    obtain ⟨x1, x2⟩ := gi i hi
    obtain ⟨y1, y2⟩ := gi j hj
    show wpAny (model prog w) A (keyLt' _ (vs.getD i Value.none) (vs.getD j Value.none)) R _ _
    rw [x1, y1]
    exact keyLt_tupW (hT2 _ x2) (hT2 _ y2) hR
  rintro ⟨⟨⟩, z⟩ s' ⟨rfl, har, hf⟩
  dsimp only
  have hout := kat_snds (ks := vs) (vs := vs) rfl har
  have hosz : ((arrOf z).map (·.2)).size = vs.length := by rw [hout, List.size_toArray, List.length_map, Array.length_toList, p2]
  refine wpAny_bind (seqEpoch_at ho6 rfl (wpAny_bind (listUpdate_at ho6 rfl ?_ (hsz2 := Nat.le_trans (Nat.le_of_eq hosz) (by rw [sizeLine_eq]; omega)))))
  rw [hf, hout]
  simp only [bne_self_eq_false, Bool.false_eq_true, if_false]
  have hus : ((Lf.krun (ltT ts) (kas_sort vs.length)).toList.map fun i => vs.getD i Value.none) = (((Lf.krun (ltT ts) (kas_sort vs.length)).toList.map fun i => ts.getD i t0)).map fun t => Value.ref t.1 := by
    rw [List.map_map]
    refine List.map_congr_left fun i hi => ?_
    have hi2 : i < vs.length := by
      have := (Array.perm_iff_toList_perm.mp p1).mem_iff.mp hi
      simpa using this
    have hi3 : i < ts.length := by omega
    show vs.getD i Value.none = Value.ref (ts.getD i t0).1
    rw [← hvs, List.getD_eq_getElem?_getD, List.getElem?_map, List.getD_eq_getElem?_getD, List.getElem?_eq_getElem hi3]
    rfl
  rw [hus]
  refine wpAny_pure (q _ ?_ ?_)
  · have a1 : ((Lf.krun (ltT ts) (kas_sort vs.length)).toList.map fun i => ts.getD i t0).Perm ((List.range vs.length).map fun i => ts.getD i t0) := (Array.perm_iff_toList_perm.mp p1).map _
    have a2 : ((List.range vs.length).map fun i => ts.getD i t0) = ts := by
      rw [hlen]
      refine List.ext_getElem? fun k => ?_
      rw [List.getElem?_map]
      by_cases hk : k < ts.length
      · rw [List.getElem?_range hk]
        show some (ts.getD k t0) = _
        rw [List.getD_eq_getElem?_getD, List.getElem?_eq_getElem hk]
        rfl
      · rw [List.getElem?_eq_none (l := List.range ts.length) (by rw [List.length_range]; omega), List.getElem?_eq_none (by omega)]
        rfl
    rw [a2] at a1
    exact a1
  · rw [List.pairwise_iff_getElem]
    intro i j hi hj hij
    rw [List.length_map, Array.length_toList, p2] at hi hj
    rw [List.getElem_map, List.getElem_map]
    have := p3 i j (Nat.le_of_lt hij) hj
    unfold Lf.gk at this
    rw [Array.getD_eq_getD_getElem?, Array.getD_eq_getD_getElem?, Array.getElem?_eq_getElem (by omega), Array.getElem?_eq_getElem (by omega)] at this
    simpa [ltT] using this
theorem sorted_tupW {l : Addr} {ts : List TI2} {Q : Value → Shared → Prop} (hl : s.heap.IsList l (ts.map fun t => Value.ref t.1).toArray) (hT : ∀ t ∈ ts, TupW x s.heap t.1 t.2) (h2 : 2 ≤ ts.length) (h64 : ts.length < 64)
    (q : ∀ us : List TI2, us.Perm ts → (us.Pairwise fun x y => HT.lexLt y.2 x.2 = false) → Q (.ref (s.heap.objs.size + 1)) { s with heap := sortedAll s.heap (ts.map fun t => Value.ref t.1) (us.map fun t => Value.ref t.1).toArray }) : wpAny (model prog w) A (call (.builtin "sorted") [.ref l]) Q E s := by
  refine Calls.call_function_entry kind_sorted plain_sorted entry_sorted (args_sorted1 _) ?_
  unfold Builtin.«sorted»
  refine wpAny_bind (m := checkCount "sorted" 1 1 _) (wpAny_pure (wpAny_bind (collect_list hl (wpAny_bind (wpAny_newList ?_)) (by rw [List.length_map, sizeLine_eq]; omega))))
  have hsz : ((s.heap.push (seqObj "list" #[] 0)).update s.heap.objs.size (Obj.mapSeq (· ++ (ts.map fun t => Value.ref t.1).toArray))).objs.size = s.heap.objs.size + 1 := (Heap.size_update ..).trans (size_push' ..)
  have hoL : (((s.heap.push (seqObj "list" #[] 0)).update s.heap.objs.size (Obj.mapSeq (· ++ (ts.map fun t => Value.ref t.1).toArray))).push (seqObj "list" (ts.map fun t => Value.ref t.1).toArray 0)).get? (s.heap.objs.size + 1) = some (seqObj "list" (ts.map fun t => Value.ref t.1).toArray 0) := hsz ▸ Heap.get?_push_size _ rfl
  have keep : ∀ b o, s.heap.get? b = some o → (((s.heap.push (seqObj "list" #[] 0)).update s.heap.objs.size (Obj.mapSeq (· ++ (ts.map fun t => Value.ref t.1).toArray))).push (seqObj "list" (ts.map fun t => Value.ref t.1).toArray 0)).get? b = some o := fun b o e =>
    Heap.get?_push_of_some _ ((Heap.get?_update_other _ _ (Nat.ne_of_gt (Heap.lt_size e))).trans (Heap.get?_push_of_some _ e))
  show wpAny _ _ _ _ _ { s with heap := ((s.heap.push (seqObj "list" #[] 0)).update s.heap.objs.size (Obj.mapSeq (· ++ (ts.map fun t => Value.ref t.1).toArray))).push (seqObj "list" (ts.map fun t => Value.ref t.1).toArray 0) }
  rw [hsz]
  exact wpAny_bind (wpAny_holding (wpAny_call_entry slot_list_sort ⟨_, hoL, rfl⟩ entry_list_sort (sort_tupW hoL (fun t ht => (hT t ht).keep fun o e => keep _ o e) (fun t ht => by
    obtain ⟨_, its, ⟨o, ho, _⟩, _⟩ := hT t ht
    exact Nat.ne_of_lt (Nat.lt_succ_of_lt (Heap.lt_size ho))) h2 h64 fun us c1 c2 => ⟨_, rfl, wpAny_pure ⟨_, rfl, q us c1 c2⟩⟩) (args_list_sort _)))
end
section
variable {X : Cx}
theorem call_sortedW : CallR X (.builtin "sorted") (fun xs H Q => ∃ (p : Addr) (x : Str) (ts : List TI2), xs = [.ref p] ∧ SqL X.K H p (ts.map fun t => V.ref t.1) ∧ (∀ t ∈ ts, SqT X.K H t.1 (V.str x :: t.2.map V.int)) ∧ ts.length < 64 ∧
    ∀ us : List TI2, us.Perm ts → (us.Pairwise fun x y => HT.lexLt y.2 x.2 = false) → ∀ l, H l = none → Q (.ref l) (upd H l (.lst (us.map fun t => V.ref t.1)))) := by
  intro pins s σ H xs us Q I r h
  obtain ⟨p, x, ts, rfl, hq, hT, h64, q⟩ := h
  obtain ⟨u, rfl, rx⟩ := vals1 r
  cases rx
  obtain ⟨its, r', pl, hz'⟩ := I.list hq
  have hits := refs_of r'
  have pl' := pl.isList
  rw [hits] at pl'
  by_cases h2 : ts.length < 2
  · refine sorted_few pl' (by rw [List.length_map]; exact h2) ?_
    obtain ⟨e, he⟩ := sortedAll_at s.heap (ts.map fun t => Value.ref t.1) (ts.map fun t => Value.ref t.1).toArray
    refine ⟨.ref (s.heap.objs.size + 1), _, I.laid (t' := s.toks) (fun _ _ => sortedAll_old) (Nat.le_succ _) (show ObjOk X.prog X.w _ _ _ (.lst (ts.map fun t => V.ref t.1)) from ⟨hz', ts.map fun t => Value.ref t.1, e, vals_refs ts, he⟩), rfl, q ts (List.Perm.refl _) ?_ _ (I.hok.fresh (Nat.le_succ _))⟩
    match ts, h2 with
    | [], _ => exact List.Pairwise.nil
    | [t], _ => exact List.pairwise_singleton _ _
  refine sorted_tupW (x := x) pl' (fun t ht => ?_) (by omega) h64 fun us c1 c2 => ?_
  · obtain ⟨i1, r1, p1, _⟩ := I.tuple (hT t ht)
    cases r1 with
    | cons e1 r2 =>
      obtain ⟨tk, rfl⟩ := e1
      exact ⟨tk, _, p1, intsAre_of r2⟩
  obtain ⟨e, he⟩ := sortedAll_at s.heap (ts.map fun t => Value.ref t.1) (us.map fun t => Value.ref t.1).toArray
  have hlen : us.length = ts.length := c1.length_eq
  refine ⟨.ref (s.heap.objs.size + 1), _, I.laid (t' := s.toks) (fun _ _ => sortedAll_old) (Nat.le_succ _) (show ObjOk X.prog X.w _ _ _ (.lst (us.map fun t => V.ref t.1)) from ⟨by rw [List.length_map, hlen]; rw [List.length_map] at hz'; exact hz', us.map fun t => Value.ref t.1, e, vals_refs us, he⟩), rfl, q us c1 c2 _ (I.hok.fresh (Nat.le_succ _))⟩
end

def Itrs (lo c : Int) (n : Nat) : It := ⟨fun i _ => i < n, fun i H x H' => H' = H ∧ x = .int (lo + i * c), fun i _ => n ≤ i⟩
theorem turn_ranges {P : Program} {w : World} {K : PySem.W.Frag} {tg : Expr} (it : Addr) (lo c : Int) (n : Nat) : Turn P w K tg (Itrs lo c n) [it] it (fun i h => IsRangeIter h it (lo + (i : Nat) * c) ((n : Int) - (i : Nat)) c) where
  mem := by simp
  obj := fun i h st b hb => by
    have e : b = it := by simpa using hb
    subst e
    exact ⟨_, st, fun v z => by
      have z' : Data.fields _ = Data.cell v := z
      cases z'⟩
  keep := fun i h h' st k => k it (by simp) _ st
  item := by
    intro X hP hw hK hc i pins s σ H E I hf st hg
    subst hP hw hK
    obtain ⟨f0, f1, f2, f3, f4, f5⟩ := hf it (by simp)
    have W := Walks.range (prog := X.prog) (w := X.w) (I.ok.hd hc) it lo c n
    refine W.item i s _ _ hg st fun v h' tk hv st' kk => ?_
    obtain ⟨t, rfl⟩ := hv
    have I1 : Inv X pins σ H { s with heap := h', toks := tk } := I.turned (fun b o hb e => kk b o (by simpa using hb) e) f0 f1 f3 f4 f5
    exact ⟨_, rfl, go_of (s := { s with heap := h', toks := tk }) (n := "range_iterator") st' rfl rfl (by decide) ⟨.int (lo + i * c), H, I1, ⟨t, rfl⟩, ⟨rfl, rfl⟩, st', fun b hb => (hf b hb).1⟩⟩
  done := by
    intro X hP hw hK hc i pins s σ H E I hf st hg
    subst hP hw hK
    obtain ⟨f0, f1, f2, f3, f4, f5⟩ := hf it (by simp)
    exact wpAny_pyNext_range_end (I.ok.hd hc) st (by have : n ≤ i := hg; omega) fun h' eb => ⟨rfl, I.turned (t' := s.toks) (fun b o hb e => eb b o hb e) f0 f1 f3 f4 f5⟩
  self := fun _ _ _ _ _ st h => wpAny_pyIter_rangeiter st h
theorem small_by {b c : Int} (hc : 1 ≤ c) (hc' : c < 2 ^ 20) (hb : -(2 ^ 61) ≤ b) (hb' : b < 2 ^ 61) : Builtin.Range.small 0 b c = true := by
  unfold Builtin.Range.small
  have h2 := rangeSize_toNat_le 0 b c
  have h3 := rangeSize_toNat 0 b c
  have h4 : Builtin.Range.rangeSize 0 b c * c < 2 ^ 62 ∧ 0 ≤ Builtin.Range.rangeSize 0 b c * c := by
    unfold Builtin.Range.rangeSize
    rw [if_pos (by omega)]
    split
    · have e1 := Int.ediv_mul_le (b - 0 - 1) (b := c) (by omega)
      have e2 : 0 ≤ (b - 0 - 1) / c := Int.ediv_nonneg (by omega) (by omega)
      have e3 : 0 ≤ (b - 0 - 1) / c * c := Int.mul_nonneg e2 (by omega)
      rw [Int.add_mul, Int.one_mul]
      omega
    · omega
  simp only [Builtin.Range.rangeFitsLong, Bool.and_eq_true, Bool.or_eq_true, decide_eq_true_eq, beq_iff_eq]
  refine ⟨by omega, .inr ?_⟩
  rw [if_pos (by omega), Bool.and_eq_true, decide_eq_true_eq, decide_eq_true_eq]
  omega
section
variable {X : Cx} {tg : Expr}
def iRng3 (ta : TA) : TI := fun σ H R => ta σ H fun vs H1 => ∃ j c : Int, vs = [.int 0, .int j, .int c] ∧ (-(2 ^ 61) ≤ j ∧ j < 2 ^ 61 ∧ 1 ≤ c ∧ c < 2 ^ 20) ∧ ∀ n : Nat, (∀ i : Nat, i < n → (i : Int) * c < j) → (n : Int) ≤ max j 0 → R (Itrs 0 c n) H1
theorem pi_range3 {a b c : Expr} {ta : TA} {p pos : Pos} (hg : Gl X "range") (hm : X.mg "range" = none) (ha : PA X [a, b, c] ta) (hs : starEach [a, b, c] X.env = [(false, eval a X.env), (false, eval b X.env), (false, eval c X.env)] := by rfl) (hs2 : starEach [b, c] X.env = [(false, eval b X.env), (false, eval c X.env)] := by rfl) :
    PI X tg (.Call (.Name "range" p) [a, b, c] [] pos) (iRng3 ta) := by
  intro pins s σ H R I h
  refine Call_ (ld_blt I hg hm boot_range (PyProof.Rows.callWith_type1 (thn (ha pos pins s σ H _ I h) fun us s1 ⟨vs, H1, I1, r1, q1⟩ => ?_) (by rw [hs, hs2]) (by rw [hs2]; rfl)))
  obtain ⟨j, m, e, ⟨q1, q2, q3, q4⟩, q⟩ := q1
  subst e
  cases r1 with
  | cons r rr =>
    cases rr with
    | cons r' rr =>
      cases rr with
      | cons r'' rr =>
        cases rr
        obtain ⟨t, rfl⟩ := r
        obtain ⟨t', rfl⟩ := r'
        obtain ⟨t'', rfl⟩ := r''
        refine call_range_3 (by omega) ?_ (hp := Or.inl (PyProof.noPylong_small (by omega)))
        refine wpAny_pyIter_range (IsRange.new ..) (small_by q3 q4 q1 q2) ?_
        have I2 : Inv X pins σ H1 { s1 with heap := s1.heap.push { cls := .type "range", data := .fields #[.int 0 t, .int j t', .int m t''] }, toks := s1.toks } := I1.kept fun b o e => Heap.get?_push_of_some _ e
        have hn := rangeSize_toNat 0 j m
        refine ⟨(s1.heap.push { cls := .type "range", data := .fields #[.int 0 t, .int j t', .int m t''] }).objs.size, [(s1.heap.push { cls := .type "range", data := .fields #[.int 0 t, .int j t', .int m t''] }).objs.size], _, _, H1, rfl,
          I2.kept (t' := s1.toks) fun b o e => Heap.get?_push_of_some _ e, turn_ranges _ 0 m (Builtin.Range.rangeSize 0 j m).toNat, ?_, fun b hb => ?_, q _ (fun i hi => ?_) ?_⟩
        · show IsRangeIter _ _ (0 + ((0 : Nat) : Int) * m) ((((Builtin.Range.rangeSize 0 j m).toNat : Nat) : Int) - ((0 : Nat) : Int)) m
          have e1 : 0 + ((0 : Nat) : Int) * m = 0 := by simp
          have e2 : (((Builtin.Range.rangeSize 0 j m).toNat : Nat) : Int) - ((0 : Nat) : Int) = Builtin.Range.rangeSize 0 j m := by omega
          rw [e1, e2]
          exact Heap.get?_push_size _ rfl
        · have e : b = (s1.heap.push { cls := .type "range", data := .fields #[.int 0 t, .int j t', .int m t''] }).objs.size := by simpa using hb
          subst e
          exact I2.fpOk (Nat.le_refl _) (I2.hok.fresh (Nat.le_refl _))
        · by_cases hj : 0 ≤ j
          · exact (start_inside q3 hj (by omega) (by omega : (i : Int) < Builtin.Range.rangeSize 0 j m)).2
          · exfalso
            unfold Builtin.Range.rangeSize at hi
            rw [if_pos (by omega), if_neg (by omega)] at hi
            omega
        · by_cases hj : 0 ≤ j
          · have := rangeSize_toNat_le 0 j m
            omega
          · have : Builtin.Range.rangeSize 0 j m = 0 := by
              unfold Builtin.Range.rangeSize
              rw [if_pos (by omega), if_neg (by omega)]
            omega
end
end L2

set_option linter.all false
namespace Lf
open PySem
theorem up_of_mod {n m : Int} (hm : 0 < m) (h : n % m = 0) : up n m = n := by
  obtain ⟨a, b⟩ := up_bounds (n := n) hm
  exact mod_unique hm up_mod h (by omega) (by omega)
theorem up_mono {n k m : Int} (hm : 0 < m) (h : n ≤ k) : up n m ≤ up k m := by
  unfold up
  exact Int.mul_le_mul_of_nonneg_right (Int.ediv_le_ediv hm (by omega)) (by omega)
def Pw (m : Int) : Prop := m = 1 ∨ m = 2 ∨ m = 4 ∨ m = 8
end Lf

set_option linter.all false
namespace Lf
open PySem
def frStep (r : Int × Int) (p : Int) (s : Int × Int) : Int := if s.1 < p + r.1 ∧ p < s.2 then up s.2 r.2 else p
def fr (ly : List (Int × Int)) (b : Int) (r : Int × Int) : Int := ly.foldl (frStep r) (up b r.2)
def Rising (ly : List (Int × Int)) : Prop := (∀ s ∈ ly, 0 ≤ s.1 ∧ s.1 < s.2) ∧ ly.Pairwise fun s t => s.2 ≤ t.1
theorem frStep_ge {r s : Int × Int} {p : Int} (hm : 0 < r.2) : p ≤ frStep r p s := by
  unfold frStep
  have := (up_bounds (n := s.2) hm).1
  split <;> omega
theorem frStep_mod {r s : Int × Int} {p : Int} (h : p % r.2 = 0) : frStep r p s % r.2 = 0 := by
  unfold frStep
  split
  · exact up_mod
  · exact h
theorem frGo_ge {r : Int × Int} (hm : 0 < r.2) : ∀ (ly : List (Int × Int)) (p : Int), p ≤ ly.foldl (frStep r) p
  | [], p => Int.le_refl _
  | s :: ly, p => Int.le_trans (frStep_ge hm) (frGo_ge hm ly _)
theorem frGo_mod {r : Int × Int} : ∀ (ly : List (Int × Int)) (p : Int), p % r.2 = 0 → (ly.foldl (frStep r) p) % r.2 = 0
  | [], p, h => h
  | s :: ly, p, h => frGo_mod ly _ (frStep_mod h)
theorem up_le_of {n m y : Int} (hm : 0 < m) (h : n ≤ y) (hy : y % m = 0) : up n m ≤ y := by
  have := up_mono (n := n) (k := y) hm h
  rw [up_of_mod hm hy] at this
  exact this
theorem frStep_mono {r s : Int × Int} {p q : Int} (hm : 0 < r.2) (hq : q % r.2 = 0) (h : p ≤ q) : frStep r p s ≤ frStep r q s := by
  have g := frStep_ge (s := s) (p := q) hm
  by_cases c : s.1 < p + r.1 ∧ p < s.2
  · have e : frStep r p s = up s.2 r.2 := if_pos c
    rw [e]
    by_cases d : q < s.2
    · have : frStep r q s = up s.2 r.2 := if_pos ⟨by omega, d⟩
      rw [this]; exact Int.le_refl _
    · exact Int.le_trans (up_le_of hm (by omega) hq) g
  · have e : frStep r p s = p := if_neg c
    rw [e]; omega
theorem frGo_mono {r : Int × Int} (hm : 0 < r.2) : ∀ (ly : List (Int × Int)) (p q : Int), q % r.2 = 0 → p ≤ q → ly.foldl (frStep r) p ≤ ly.foldl (frStep r) q
  | [], _, _, _, h => h
  | s :: ly, p, q, hq, h => frGo_mono hm ly _ _ (frStep_mod hq) (frStep_mono hm hq h)
theorem frGo_stay {r : Int × Int} : ∀ (ly : List (Int × Int)) (p : Int), (∀ s ∈ ly, p + r.1 ≤ s.1) → ly.foldl (frStep r) p = p
  | [], _, _ => rfl
  | s :: ly, p, h => by
    have e : frStep r p s = p := if_neg fun c => by have := h s List.mem_cons_self; omega
    show ly.foldl (frStep r) (frStep r p s) = p
    rw [e]
    exact frGo_stay ly p fun t ht => h t (List.mem_cons_of_mem _ ht)
theorem frGo_free {r : Int × Int} (hm : 0 < r.2) : ∀ (ly : List (Int × Int)) (p : Int), Rising ly → ∀ s ∈ ly, ly.foldl (frStep r) p + r.1 ≤ s.1 ∨ s.2 ≤ ly.foldl (frStep r) p
  | [], _, _, _, h => by cases h
  | s :: ly, p, hR, t, ht => by
    have hp := List.pairwise_cons.mp hR.2
    have hR' : Rising ly := ⟨fun u hu => hR.1 u (List.mem_cons_of_mem _ hu), hp.2⟩
    show ly.foldl (frStep r) (frStep r p s) + r.1 ≤ t.1 ∨ t.2 ≤ ly.foldl (frStep r) (frStep r p s)
    rcases List.mem_cons.mp ht with h | h
    · rw [h]
      have g := frGo_ge hm ly (frStep r p s)
      by_cases c : s.1 < p + r.1 ∧ p < s.2
      · have e : frStep r p s = up s.2 r.2 := if_pos c
        rw [e] at g ⊢
        have := (up_bounds (n := s.2) hm).1
        exact .inr (by omega)
      · have e : frStep r p s = p := if_neg c
        rw [e] at g ⊢
        by_cases d : s.2 ≤ p
        · exact .inr (by omega)
        · have d2 : p + r.1 ≤ s.1 := by omega
          rw [frGo_stay ly p fun u hu => by
            have a := hp.1 u hu
            have b := (hR.1 s List.mem_cons_self).2
            omega]
          exact .inl d2
    · exact frGo_free hm ly _ hR' t h
theorem frGo_le {r : Int × Int} {B : Int} (hm : 0 < r.2) (h8 : r.2 ≤ 8) : ∀ (ly : List (Int × Int)) (p : Int), (∀ s ∈ ly, s.2 ≤ B) → p ≤ B + 8 → ly.foldl (frStep r) p ≤ B + 8
  | [], _, _, h => h
  | s :: ly, p, hs, h => by
    refine frGo_le hm h8 ly _ (fun t ht => hs t (List.mem_cons_of_mem _ ht)) ?_
    unfold frStep
    have a := hs s List.mem_cons_self
    have b := (up_bounds (n := s.2) hm).2
    split <;> omega
theorem fr_ge {ly : List (Int × Int)} {b : Int} {r : Int × Int} (hm : 0 < r.2) : b ≤ fr ly b r := Int.le_trans (up_bounds hm).1 (frGo_ge hm ly _)
theorem fr_mod {ly : List (Int × Int)} {b : Int} {r : Int × Int} : fr ly b r % r.2 = 0 := frGo_mod ly _ up_mod
theorem fr_mono {ly : List (Int × Int)} {b c : Int} {r : Int × Int} (hm : 0 < r.2) (h : b ≤ c) : fr ly b r ≤ fr ly c r := frGo_mono hm ly _ _ up_mod (up_mono hm h)
theorem fr_free {ly : List (Int × Int)} {b : Int} {r : Int × Int} (hm : 0 < r.2) (hR : Rising ly) : ∀ s ∈ ly, fr ly b r + r.1 ≤ s.1 ∨ s.2 ≤ fr ly b r := frGo_free hm ly _ hR
theorem fr_le {ly : List (Int × Int)} {b B : Int} {r : Int × Int} (hm : 0 < r.2) (h8 : r.2 ≤ 8) (hs : ∀ s ∈ ly, s.2 ≤ B) (hb : b ≤ B) : fr ly b r ≤ B + 8 := frGo_le hm h8 ly _ hs (by have := (up_bounds (n := b) hm).2; omega)
def rk (rs : List (Int × Int)) (k : Nat) : Int × Int := rs.getD k (0, 1)
abbrev Way := Int × Nat × Int
def wlt (a b : Way) : Bool := if a.1 = b.1 then (if a.2.1 = b.2.1 then decide (a.2.2 < b.2.2) else decide (a.2.1 < b.2.1)) else decide (a.1 < b.1)
theorem wlt_irrefl (a : Way) : wlt a a = false := by simp [wlt]
theorem wlt_le {a b : Way} (h : wlt a b = false) : b.1 ≤ a.1 := by
  unfold wlt at h
  split at h
  · omega
  · exact Int.not_lt.mp (of_decide_eq_false h)
theorem wlt_anti {a b : Way} (h1 : wlt a b = false) (h2 : wlt b a = false) : a = b := by
  obtain ⟨a1, a2, a3⟩ := a
  obtain ⟨b1, b2, b3⟩ := b
  simp only [wlt] at h1 h2
  by_cases c : a1 = b1
  · subst c
    rw [if_pos rfl] at h1 h2
    by_cases d : a2 = b2
    · subst d
      rw [if_pos rfl] at h1 h2
      have := of_decide_eq_false h1
      have := of_decide_eq_false h2
      have : a3 = b3 := by omega
      rw [this]
    · rw [if_neg d] at h1
      rw [if_neg (fun z => d z.symm)] at h2
      have := of_decide_eq_false h1
      have := of_decide_eq_false h2
      omega
  · rw [if_neg c] at h1
    rw [if_neg (fun z => c z.symm)] at h2
    have := of_decide_eq_false h1
    have := of_decide_eq_false h2
    omega
theorem wlt_trans {a b c : Way} (h1 : wlt b a = false) (h2 : wlt c b = false) : wlt c a = false := by
  obtain ⟨a1, a2, a3⟩ := a
  obtain ⟨b1, b2, b3⟩ := b
  obtain ⟨c1, c2, c3⟩ := c
  simp only [wlt] at h1 h2 ⊢
  repeat' split at h1
  all_goals repeat' split at h2
  all_goals repeat' split
  all_goals simp only [decide_eq_false_iff_not] at *
  all_goals omega
def wmin (d : Way) : List Way → Way
  | [] => d
  | a :: r => wmin (if wlt a d then a else d) r
theorem wmin_spec : ∀ (l : List Way) (d : Way), (wmin d l = d ∨ wmin d l ∈ l) ∧ wlt d (wmin d l) = false ∧ ∀ a ∈ l, wlt a (wmin d l) = false
  | [], d => ⟨.inl rfl, wlt_irrefl d, fun a h => by cases h⟩
  | a :: r, d => by
    show (wmin (if wlt a d then a else d) r = d ∨ wmin (if wlt a d then a else d) r ∈ a :: r) ∧ wlt d (wmin (if wlt a d then a else d) r) = false ∧ ∀ x ∈ a :: r, wlt x (wmin (if wlt a d then a else d) r) = false
    by_cases c : wlt a d = true
    · rw [if_pos c]
      obtain ⟨h1, h2, h3⟩ := wmin_spec r a
      have da : wlt d a = false := by
        cases z : wlt d a with
        | false => rfl
        | true =>
          exfalso
          obtain ⟨a1, a2, a3⟩ := a
          obtain ⟨d1, d2, d3⟩ := d
          simp only [wlt] at c z
          repeat' split at c
          all_goals repeat' split at z
          all_goals simp only [decide_eq_true_eq] at *
          all_goals omega
      refine ⟨.inr ?_, wlt_trans h2 da, fun x hx => ?_⟩
      · rcases h1 with h1 | h1
        · rw [h1]; exact List.mem_cons_self
        · exact List.mem_cons_of_mem _ h1
      · rcases List.mem_cons.mp hx with hx | hx
        · rw [hx]; exact h2
        · exact h3 x hx
    · have c' : wlt a d = false := by cases z : wlt a d <;> simp_all
      rw [if_neg c]
      obtain ⟨h1, h2, h3⟩ := wmin_spec r d
      refine ⟨?_, h2, fun x hx => ?_⟩
      · rcases h1 with h1 | h1
        · exact .inl h1
        · exact .inr (List.mem_cons_of_mem _ h1)
      · rcases List.mem_cons.mp hx with hx | hx
        · rw [hx]; exact wlt_trans h2 c'
        · exact h3 x hx
def w0 : Way := (0, 0, 0)
def lmin : List Way → Way
  | [] => w0
  | a :: r => wmin a r
theorem lmin_spec {l : List Way} (h : l ≠ []) : lmin l ∈ l ∧ ∀ a ∈ l, wlt a (lmin l) = false := by
  cases l with
  | nil => exact absurd rfl h
  | cons a r =>
    obtain ⟨h1, h2, h3⟩ := wmin_spec r a
    show wmin a r ∈ a :: r ∧ _
    refine ⟨?_, fun x hx => ?_⟩
    · rcases h1 with h1 | h1
      · rw [h1]; exact List.mem_cons_self
      · exact List.mem_cons_of_mem _ h1
    · rcases List.mem_cons.mp hx with hx | hx
      · rw [hx]; exact h2
      · exact h3 x hx
theorem lmin_is {l : List Way} {M : Way} (h : M ∈ l) (hM : ∀ a ∈ l, wlt a M = false) : M = lmin l := by
  obtain ⟨h1, h2⟩ := lmin_spec (l := l) (fun z => by rw [z] at h; cases h)
  exact wlt_anti (h2 M h) (hM _ h1)
def candOf (rs ly : List (Int × Int)) (ws : List Way) (g k : Nat) : Way := (fr ly (ws.getD (g - 2 ^ k) w0).1 (rk rs k) + (rk rs k).1, k, fr ly (ws.getD (g - 2 ^ k) w0).1 (rk rs k))
def cands (rs ly : List (Int × Int)) (ws : List Way) (g n : Nat) : List Way := ((List.range n).filter fun k => g.testBit k).map (candOf rs ly ws g)
theorem cands_snoc (rs ly : List (Int × Int)) (ws : List Way) (g n : Nat) : cands rs ly ws g (n + 1) = if g.testBit n = true then cands rs ly ws g n ++ [candOf rs ly ws g n] else cands rs ly ws g n := by
  unfold cands
  rw [List.range_succ, List.filter_append]
  by_cases h : g.testBit n = true
  · rw [if_pos h, List.filter_cons_of_pos h, List.filter_nil, List.map_append]; rfl
  · rw [if_neg h, List.filter_cons_of_neg h, List.filter_nil, List.append_nil]
def wy (rs ly : List (Int × Int)) : Nat → List Way
  | 0 => [w0]
  | g + 1 => wy rs ly g ++ [lmin (cands rs ly (wy rs ly g) (g + 1) rs.length)]
theorem wy_len (rs ly : List (Int × Int)) : ∀ g, (wy rs ly g).length = g + 1
  | 0 => rfl
  | g + 1 => by show (_ ++ [_]).length = _; rw [List.length_append, wy_len rs ly g]; rfl
def way (rs ly : List (Int × Int)) (g : Nat) : Way := (wy rs ly g).getD g w0
theorem wy_get (rs ly : List (Int × Int)) {g : Nat} : ∀ {h : Nat}, g ≤ h → (wy rs ly h).getD g w0 = way rs ly g
  | 0, e => by
    have : g = 0 := by omega
    subst this; rfl
  | h + 1, e => by
    by_cases c : g = h + 1
    · subst c; rfl
    · have i := wy_get rs ly (g := g) (h := h) (by omega)
      rw [← i]
      show (wy rs ly h ++ [_]).getD g w0 = _
      rw [List.getD_eq_getElem?_getD, List.getD_eq_getElem?_getD, List.getElem?_append_left (by rw [wy_len]; omega)]
theorem way_succ (rs ly : List (Int × Int)) (g : Nat) : way rs ly (g + 1) = lmin (cands rs ly (wy rs ly g) (g + 1) rs.length) := by
  unfold way
  show (wy rs ly g ++ [_]).getD (g + 1) w0 = _
  rw [List.getD_eq_getElem?_getD, List.getElem?_append_right (by rw [wy_len]; exact Nat.le_refl _), wy_len, Nat.sub_self]
  rfl
theorem tb_sub : ∀ g, g < 32 → ∀ k, k < 5 → g.testBit k = true → 2 ^ k ≤ g ∧ ∀ j, j < 5 → (g - 2 ^ k).testBit j = (g.testBit j && decide (j ≠ k)) := by decide +kernel
theorem tb_add : ∀ g, g < 32 → ∀ k, k < 5 → g.testBit k = false → g + 2 ^ k < 32 ∧ (g + 2 ^ k).testBit k = true ∧ ∀ j, j < 5 → (g + 2 ^ k).testBit j = (g.testBit j || decide (j = k)) := by decide +kernel
theorem tb_lt : ∀ n, n < 6 → ∀ g, g < 32 → ((∀ j, j < 5 → g.testBit j = true → j < n) ↔ g < 2 ^ n) := by decide +kernel
theorem tb_ex : ∀ n, n < 6 → ∀ g, g < 2 ^ n → 0 < g → ∃ k, k < n ∧ g.testBit k = true := by decide +kernel
theorem tb_full : ∀ n, n < 6 → ∀ g, g < 2 ^ n → ((∀ j, j < n → g.testBit j = true) ↔ g = 2 ^ n - 1) := by decide +kernel
theorem pow_lt32 : ∀ n, n < 6 → 2 ^ n ≤ 32 := by decide
section
variable {rs ly : List (Int × Int)}
def Good (rs : List (Int × Int)) : Prop := rs.length ≤ 5 ∧ ∀ k, k < rs.length → 1 ≤ (rk rs k).1 ∧ 1 ≤ (rk rs k).2 ∧ (rk rs k).2 ≤ 8
theorem way_spec (hg : Good rs) {g : Nat} (h0 : 0 < g) (h : g < 2 ^ rs.length) :
    (∃ k, k < rs.length ∧ g.testBit k = true ∧ way rs ly g = (fr ly (way rs ly (g - 2 ^ k)).1 (rk rs k) + (rk rs k).1, k, fr ly (way rs ly (g - 2 ^ k)).1 (rk rs k))) ∧
    ∀ k, k < rs.length → g.testBit k = true → (way rs ly g).1 ≤ fr ly (way rs ly (g - 2 ^ k)).1 (rk rs k) + (rk rs k).1 := by
  have h5 := hg.1
  have h32 : g < 32 := Nat.lt_of_lt_of_le h (pow_lt32 _ (by omega))
  obtain ⟨g', rfl⟩ : ∃ g', g = g' + 1 := ⟨g - 1, by omega⟩
  have key : ∀ k, k < rs.length → (g' + 1).testBit k = true → candOf rs ly (wy rs ly g') (g' + 1) k = (fr ly (way rs ly (g' + 1 - 2 ^ k)).1 (rk rs k) + (rk rs k).1, k, fr ly (way rs ly (g' + 1 - 2 ^ k)).1 (rk rs k)) := by
    intro k hk hb
    have := (tb_sub _ h32 k (by omega) hb).1
    have p : 0 < 2 ^ k := Nat.two_pow_pos k
    unfold candOf
    rw [wy_get rs ly (g := g' + 1 - 2 ^ k) (h := g') (by omega)]
  have mem : ∀ k, k < rs.length → (g' + 1).testBit k = true → candOf rs ly (wy rs ly g') (g' + 1) k ∈ cands rs ly (wy rs ly g') (g' + 1) rs.length := by
    intro k hk hb
    exact List.mem_map.mpr ⟨k, List.mem_filter.mpr ⟨List.mem_range.mpr hk, hb⟩, rfl⟩
  obtain ⟨k0, hk0, hb0⟩ := tb_ex rs.length (by omega) (g' + 1) h h0
  obtain ⟨s1, s2⟩ := lmin_spec (l := cands rs ly (wy rs ly g') (g' + 1) rs.length) (fun z => by have := mem k0 hk0 hb0; rw [z] at this; cases this)
  rw [← way_succ] at s1 s2
  refine ⟨?_, fun k hk hb => ?_⟩
  · obtain ⟨k, hk, e⟩ := List.mem_map.mp s1
    obtain ⟨hk1, hk2⟩ := List.mem_filter.mp hk
    have hk1 := List.mem_range.mp hk1
    exact ⟨k, hk1, hk2, by rw [← e, key k hk1 hk2]⟩
  · have := wlt_le (s2 _ (mem k hk hb))
    rw [key k hk hb] at this
    exact this
theorem way_nonneg (hg : Good rs) : ∀ (g : Nat), g < 2 ^ rs.length → 0 ≤ (way rs ly g).1 := by
  intro g
  induction g using Nat.strongRecOn with
  | _ g ih =>
    intro h
    by_cases h0 : g = 0
    · subst h0; exact Int.le_refl _
    · obtain ⟨⟨k, hk, hb, e⟩, _⟩ := way_spec (ly := ly) hg (by omega) h
      have h5 := hg.1
      have h32 : g < 32 := Nat.lt_of_lt_of_le h (pow_lt32 _ (by omega))
      have a := (tb_sub g h32 k (by omega) hb).1
      have p : 0 < 2 ^ k := Nat.two_pow_pos k
      have i := ih (g - 2 ^ k) (by omega) (by omega)
      obtain ⟨r1, r2, r3⟩ := hg.2 k hk
      have f := fr_ge (ly := ly) (b := (way rs ly (g - 2 ^ k)).1) (r := rk rs k) (by omega)
      rw [e]
      show 0 ≤ _ + _
      omega
theorem way_le {B R : Int} (hg : Good rs) (hB : 0 ≤ B) (hs : ∀ s ∈ ly, s.2 ≤ B) (hR : ∀ k, k < rs.length → (rk rs k).1 ≤ R) (hR0 : 0 ≤ R) : ∀ (g : Nat), g < 2 ^ rs.length → (way rs ly g).1 ≤ B + g * (R + 8) := by
  intro g
  induction g using Nat.strongRecOn with
  | _ g ih =>
    intro h
    by_cases h0 : g = 0
    · subst h0
      show (0 : Int) ≤ _
      simp
      omega
    · obtain ⟨⟨k, hk, hb, e⟩, _⟩ := way_spec (ly := ly) hg (by omega) h
      have h5 := hg.1
      have h32 : g < 32 := Nat.lt_of_lt_of_le h (pow_lt32 _ (by omega))
      have a := (tb_sub g h32 k (by omega) hb).1
      have p : 0 < 2 ^ k := Nat.two_pow_pos k
      have i := ih (g - 2 ^ k) (by omega) (by omega)
      obtain ⟨r1, r2, r3⟩ := hg.2 k hk
      have rR := hR k hk
      have c : ((g - 2 ^ k : Nat) : Int) * (R + 8) ≤ ((g - 1 : Nat) : Int) * (R + 8) := Int.mul_le_mul_of_nonneg_right (by omega) (by omega)
      have d : ((g - 1 : Nat) : Int) * (R + 8) = g * (R + 8) - (R + 8) := by
        have : ((g - 1 : Nat) : Int) = (g : Int) - 1 := by omega
        rw [this, Int.sub_mul, Int.one_mul]
      have d0 : 0 ≤ ((g - 1 : Nat) : Int) * (R + 8) := Int.mul_nonneg (by omega) (by omega)
      have f := fr_le (ly := ly) (b := (way rs ly (g - 2 ^ k)).1) (B := B + ((g - 1 : Nat) : Int) * (R + 8)) (r := rk rs k) (by omega) r3 (fun s hs' => by have := hs s hs'; omega) (by omega)
      rw [e]
      show _ + _ ≤ _
      omega
end
end Lf

set_option linter.all false
namespace Lf
open PySem
inductive Leaf (rs ly : List (Int × Int)) : Int → List Nat → Int → Prop
  | done (e : Int) : Leaf rs ly e [] e
  | step {e : Int} {left : List Nat} {k : Nat} {x : Int} (hk : k ∈ left) (h : Leaf rs ly (fr ly e (rk rs k) + (rk rs k).1) (left.filter fun j => decide (j ≠ k)) x) : Leaf rs ly e left x
def compl (n g : Nat) : List Nat := (List.range n).filter fun j => !(g.testBit j)
theorem compl_mem {n g k : Nat} : k ∈ compl n g ↔ k < n ∧ g.testBit k = false := by
  unfold compl
  rw [List.mem_filter, List.mem_range]
  cases g.testBit k <;> simp
theorem compl_zero (n : Nat) : compl n 0 = List.range n := by
  unfold compl
  exact List.filter_eq_self.mpr fun a _ => by rw [Nat.zero_testBit]; rfl
section
variable {rs ly : List (Int × Int)}
theorem compl_add {n g k : Nat} (hn : n ≤ 5) (hg : g < 32) (hk : k < n) (hb : g.testBit k = false) : (compl n g).filter (fun j => decide (j ≠ k)) = compl n (g + 2 ^ k) := by
  unfold compl
  rw [List.filter_filter]
  refine List.filter_congr fun j hj => ?_
  have hj := List.mem_range.mp hj
  rw [(tb_add g hg k (by omega) hb).2.2 j (by omega)]
  by_cases e : j = k
  · rw [decide_eq_true e, decide_eq_false (fun z => z e)]; simp
  · rw [decide_eq_false e, decide_eq_true e]; simp
theorem compl_full {n g : Nat} (hn : n ≤ 5) (hg : g < 2 ^ n) (h : compl n g = []) : g = 2 ^ n - 1 := by
  refine (tb_full n (by omega) g hg).mp fun j hj => ?_
  cases z : g.testBit j with
  | true => rfl
  | false =>
    have : j ∈ compl n g := compl_mem.mpr ⟨hj, z⟩
    rw [h] at this
    cases this
theorem leaf_ge (hg : Good rs) {e : Int} {left : List Nat} {x : Int} (h : Leaf rs ly e left x) : ∀ g, g < 2 ^ rs.length → left = compl rs.length g → (way rs ly g).1 ≤ e → (way rs ly (2 ^ rs.length - 1)).1 ≤ x := by
  have h5 := hg.1
  induction h with
  | done e =>
    intro g hlt hl hw
    rw [← compl_full h5 hlt hl.symm]
    exact hw
  | @step e left k x hk h ih =>
    intro g hlt hl hw
    have h32 : g < 32 := Nat.lt_of_lt_of_le hlt (pow_lt32 _ (by omega))
    rw [hl] at hk ih
    obtain ⟨k1, k2⟩ := compl_mem.mp hk
    obtain ⟨t1, t2, t3⟩ := tb_add g h32 k (by omega) k2
    have hlt2 : g + 2 ^ k < 2 ^ rs.length := by
      refine (tb_lt rs.length (by omega) _ t1).mp fun j hj hb => ?_
      rw [t3 j hj] at hb
      by_cases e : j = k
      · omega
      · rw [decide_eq_false e, Bool.or_false] at hb
        exact (tb_lt rs.length (by omega) g h32).mpr hlt j hj hb
    refine ih (g + 2 ^ k) hlt2 (compl_add h5 h32 k1 k2) ?_
    obtain ⟨_, s2⟩ := way_spec (ly := ly) hg (show 0 < g + 2 ^ k by have := Nat.two_pow_pos k; omega) hlt2
    have := s2 k k1 t2
    rw [Nat.add_sub_cancel] at this
    obtain ⟨r1, r2, r3⟩ := hg.2 k k1
    have := fr_mono (ly := ly) (r := rk rs k) (by omega) hw
    omega
def full (rs : List (Int × Int)) : Nat := 2 ^ rs.length - 1
theorem full_lt (rs : List (Int × Int)) : full rs < 2 ^ rs.length := by unfold full; have := Nat.two_pow_pos rs.length; omega
theorem full_bit (hg : Good rs) {k : Nat} (hk : k < rs.length) : (full rs).testBit k = true := (tb_full rs.length (by have := hg.1; omega) _ (full_lt rs)).mpr rfl k hk
theorem leaf_least (hg : Good rs) {x : Int} (h : Leaf rs ly 0 (List.range rs.length) x) : (way rs ly (full rs)).1 ≤ x :=
  leaf_ge hg h 0 (Nat.two_pow_pos _) (compl_zero _).symm (Int.le_refl _)
def back (rs ly : List (Int × Int)) : Nat → Nat → List Int → List Int
  | 0, _, ps => ps
  | f + 1, g, ps => if g = 0 then ps else back rs ly f (g - 2 ^ (way rs ly g).2.1) (ps.set (way rs ly g).2.1 (way rs ly g).2.2)
def pk (ps : List Int) (k : Nat) : Int := ps.getD k 0
structure Bk (rs ly : List (Int × Int)) (g : Nat) (ps : List Int) : Prop where
  len : ps.length = rs.length
  ok : ∀ k, k < rs.length → g.testBit k = false → 0 ≤ pk ps k ∧ pk ps k % (rk rs k).2 = 0 ∧ (∀ s ∈ ly, pk ps k + (rk rs k).1 ≤ s.1 ∨ s.2 ≤ pk ps k) ∧ (way rs ly g).1 ≤ pk ps k ∧ pk ps k + (rk rs k).1 ≤ (way rs ly (full rs)).1
  dis : ∀ k j, k < rs.length → j < rs.length → k ≠ j → g.testBit k = false → g.testBit j = false → pk ps k + (rk rs k).1 ≤ pk ps j ∨ pk ps j + (rk rs j).1 ≤ pk ps k
  mx : g = full rs ∨ ∃ k, k < rs.length ∧ g.testBit k = false ∧ pk ps k + (rk rs k).1 = (way rs ly (full rs)).1
theorem pk_set {ps : List Int} {k j : Nat} {v : Int} (h : k < ps.length) : pk (ps.set k v) j = if j = k then v else pk ps j := by
  unfold pk
  rw [List.getD_eq_getElem?_getD, List.getD_eq_getElem?_getD]
  by_cases e : j = k
  · rw [if_pos e, e, List.getElem?_set_self h]; rfl
  · rw [if_neg e, List.getElem?_set_ne (fun z => e z.symm)]
theorem Bk.start (hg : Good rs) : Bk rs ly (full rs) (List.replicate rs.length 0) :=
  ⟨List.length_replicate, fun k hk hb => absurd hb (by rw [full_bit hg hk]; decide), fun k j hk _ _ hb _ => absurd hb (by rw [full_bit hg hk]; decide), .inl rfl⟩
theorem Bk.step (hg : Good rs) (hR : Rising ly) {g : Nat} {ps : List Int} (h0 : 0 < g) (hlt : g < 2 ^ rs.length) (h : Bk rs ly g ps) :
    (way rs ly g).2.1 < rs.length ∧ g.testBit (way rs ly g).2.1 = true ∧ 2 ^ (way rs ly g).2.1 ≤ g ∧ Bk rs ly (g - 2 ^ (way rs ly g).2.1) (ps.set (way rs ly g).2.1 (way rs ly g).2.2) := by
  have h5 := hg.1
  obtain ⟨⟨k, hk, hb, e⟩, _⟩ := way_spec (ly := ly) hg h0 hlt
  have h32 : g < 32 := Nat.lt_of_lt_of_le hlt (pow_lt32 _ (by omega))
  obtain ⟨a, b⟩ := tb_sub g h32 k (by omega) hb
  have p2 : 0 < 2 ^ k := Nat.two_pow_pos k
  have hw := way_nonneg (ly := ly) hg (g - 2 ^ k) (by omega)
  obtain ⟨r1, r2, r3⟩ := hg.2 k hk
  have e1 : (way rs ly g).2.1 = k := by rw [e]
  have e2 : (way rs ly g).2.2 = fr ly (way rs ly (g - 2 ^ k)).1 (rk rs k) := by rw [e]
  have e3 : (way rs ly g).1 = fr ly (way rs ly (g - 2 ^ k)).1 (rk rs k) + (rk rs k).1 := by rw [e]
  rw [e1, e2]
  have fge := fr_ge (ly := ly) (b := (way rs ly (g - 2 ^ k)).1) (r := rk rs k) (by omega)
  have ffr := fr_free (ly := ly) (b := (way rs ly (g - 2 ^ k)).1) (r := rk rs k) (by omega) hR
  have fmd := fr_mod (ly := ly) (b := (way rs ly (g - 2 ^ k)).1) (r := rk rs k)
  generalize fr ly (way rs ly (g - 2 ^ k)).1 (rk rs k) = p at e3 fge ffr fmd
  have hle : (way rs ly g).1 ≤ (way rs ly (full rs)).1 := by
    rcases h.mx with z | ⟨j, hj, hbj, z⟩
    · rw [z]; exact Int.le_refl _
    · obtain ⟨_, _, _, o4, o5⟩ := h.ok j hj hbj
      have := (hg.2 j hj).1
      omega
  have hkl : k < ps.length := by rw [h.len]; exact hk
  have old : ∀ j, j < rs.length → j ≠ k → (g - 2 ^ k).testBit j = false → g.testBit j = false := fun j hj hne hbj => by
    rw [b j (by omega), decide_eq_true hne, Bool.and_true] at hbj
    exact hbj
  refine ⟨hk, hb, a, ⟨by rw [List.length_set]; exact h.len, fun j hj hbj => ?_, fun i j hi hj hij hbi hbj => ?_, .inr ?_⟩⟩
  · rw [pk_set hkl]
    by_cases c : j = k
    · rw [if_pos c, c]
      exact ⟨by omega, fmd, ffr, fge, by omega⟩
    · rw [if_neg c]
      obtain ⟨o1, o2, o3, o4, o5⟩ := h.ok j hj (old j hj c hbj)
      exact ⟨o1, o2, o3, by omega, o5⟩
  · rw [pk_set hkl, pk_set hkl]
    by_cases c : i = k
    · have c2 : j ≠ k := fun z => hij (c.trans z.symm)
      rw [if_pos c, if_neg c2, c]
      obtain ⟨o1, o2, o3, o4, o5⟩ := h.ok j hj (old j hj c2 hbj)
      exact .inl (by omega)
    · by_cases c2 : j = k
      · rw [if_neg c, if_pos c2, c2]
        obtain ⟨o1, o2, o3, o4, o5⟩ := h.ok i hi (old i hi c hbi)
        exact .inr (by omega)
      · rw [if_neg c, if_neg c2]
        exact h.dis i j hi hj hij (old i hi c hbi) (old j hj c2 hbj)
  · rcases h.mx with z | ⟨j, hj, hbj, z⟩
    · refine ⟨k, hk, by rw [b k (by omega), decide_eq_false (fun z => z rfl), Bool.and_false], ?_⟩
      rw [pk_set hkl, if_pos rfl]
      rw [z] at e3
      omega
    · have c : j ≠ k := fun q => by rw [q, hb] at hbj; cases hbj
      refine ⟨j, hj, by rw [b j (by omega), hbj, Bool.false_and], ?_⟩
      rw [pk_set hkl, if_neg c]
      exact z
theorem back_ok (hg : Good rs) (hR : Rising ly) : ∀ (f g : Nat) (ps : List Int), g ≤ f → g < 2 ^ rs.length → Bk rs ly g ps → Bk rs ly 0 (back rs ly f g ps)
  | 0, g, ps, h, _, hb => by
    have : g = 0 := by omega
    subst this
    exact hb
  | f + 1, g, ps, h, hlt, hb => by
    show Bk rs ly 0 (if g = 0 then ps else _)
    by_cases c : g = 0
    · rw [if_pos c]; rw [c] at hb; exact hb
    · rw [if_neg c]
      obtain ⟨a1, a2, a3, a4⟩ := hb.step hg hR (by omega) hlt
      have p : 0 < 2 ^ (way rs ly g).2.1 := Nat.two_pow_pos _
      exact back_ok hg hR f _ _ (by omega) (by omega) a4
def dpP (rs ly : List (Int × Int)) : List Int := back rs ly (full rs) (full rs) (List.replicate rs.length 0)
theorem dpP_ok (hg : Good rs) (hR : Rising ly) : Bk rs ly 0 (dpP rs ly) := back_ok hg hR _ _ _ (Nat.le_refl _) (full_lt rs) (Bk.start hg)
theorem back_fuel (hg : Good rs) (hR : Rising ly) : ∀ (f h g : Nat) (ps : List Int), g ≤ f → g ≤ h → g < 2 ^ rs.length → back rs ly f g ps = back rs ly h g ps
  | 0, 0, g, ps, _, _, _ => rfl
  | 0, h + 1, g, ps, h1, _, _ => by
    have : g = 0 := by omega
    subst this
    rfl
  | f + 1, 0, g, ps, _, h2, _ => by
    have : g = 0 := by omega
    subst this
    rfl
  | f + 1, h + 1, g, ps, h1, h2, h3 => by
    show (if g = 0 then ps else _) = (if g = 0 then ps else _)
    by_cases c : g = 0
    · rw [if_pos c, if_pos c]
    · rw [if_neg c, if_neg c]
      obtain ⟨⟨k, hk, hb, e⟩, _⟩ := way_spec (ly := ly) hg (by omega) h3
      have h5 := hg.1
      have h32 : g < 32 := Nat.lt_of_lt_of_le h3 (pow_lt32 _ (by omega))
      obtain ⟨a, b⟩ := tb_sub g h32 k (by omega) hb
      have e1 : (way rs ly g).2.1 = k := by rw [e]
      have p : 0 < 2 ^ k := Nat.two_pow_pos _
      rw [e1]
      exact back_fuel hg hR f h _ _ (by omega) (by omega) (by omega)
def endsP (rs : List (Int × Int)) (ps : List Int) : List Int := (List.range rs.length).map fun k => pk ps k + (rk rs k).1
def baseL (ly : List (Int × Int)) : Int := maxL 0 (ly.map (·.2))
def dueE (rs ly : List (Int × Int)) : Int := max (way rs ly (full rs)).1 (baseL ly)
theorem maxL_append {d : Int} : ∀ (a b : List Int), maxL d (a ++ b) = max (maxL d a) (maxL d b)
  | [], b => by
    show maxL d b = max d (maxL d b)
    have := maxL_d (d := d) b
    omega
  | x :: a, b => by
    show max x (maxL d (a ++ b)) = max (max x (maxL d a)) (maxL d b)
    rw [maxL_append a b]
    omega
theorem ends_is (hg : Good rs) (hR : Rising ly) : maxL 0 (endsP rs (dpP rs ly) ++ ly.map (·.2)) = dueE rs ly := by
  have hB := dpP_ok hg hR
  rw [maxL_append]
  unfold dueE baseL
  congr 1
  rcases hB.mx with z | ⟨k, hk, hbk, z⟩
  · have hn : rs.length = 0 := by
      unfold full at z
      cases hr : rs.length with
      | zero => rfl
      | succ n =>
        rw [hr, Nat.pow_succ] at z
        have := Nat.two_pow_pos n
        omega
    unfold endsP
    rw [hn, ← z]
    rfl
  · refine (maxL_is (M := (way rs ly (full rs)).1) ?_ (way_nonneg hg _ (full_lt rs)) fun a ha => ?_).symm
    · exact List.mem_map.mpr ⟨k, List.mem_range.mpr hk, z⟩
    · obtain ⟨j, hj, e⟩ := List.mem_map.mp ha
      have hj := List.mem_range.mp hj
      rw [← e]
      exact (hB.ok j hj (Nat.zero_testBit _)).2.2.2.2
end
end Lf

set_option linter.all false
namespace Lf
open PySem
def cst : Nat → Nat
  | 0 => 1
  | m + 1 => 1 + (m + 1) * cst m
abbrev Ent := Int × List Nat
def plW (pl : List Ent) : Nat := (pl.map fun x => cst x.2.length).sum
def chs (rs ly : List (Int × Int)) (e : Int) (left ks : List Nat) : List Ent := ks.map fun k => (fr ly e (rk rs k) + (rk rs k).1, left.filter fun j => decide (j ≠ k))
theorem less_of {left : List Nat} {k : Nat} (h : k ∈ left) : (left.filter fun j => decide (j ≠ k)).length + 1 ≤ left.length := by
  have : (left.filter fun j => decide (j ≠ k)).length < left.length := List.length_filter_lt_length_iff_exists.mpr ⟨k, h, by simp⟩
  omega
structure LI (rs ly : List (Int × Int)) (best : Option Int) (pl : List Ent) : Prop where
  iff : ∀ c : Int, ((∃ b, best = some b ∧ b ≤ c) ∨ ∃ x ∈ pl, ∃ y, Leaf rs ly x.1 x.2 y ∧ max y (baseL ly) ≤ c) ↔ ∃ y, Leaf rs ly 0 (List.range rs.length) y ∧ max y (baseL ly) ≤ c
  ok : ∀ x ∈ pl, (∀ k ∈ x.2, k < rs.length) ∧ x.2.length ≤ rs.length ∧ 0 ≤ x.1 ∧ x.1 ≤ 100000 + ((5 - x.2.length : Nat) : Int) * 2008
  wt : plW pl ≤ 326
def upBest (best : Option Int) (m : Int) : Option Int := match best with
  | none => some m
  | some b => if m < b then some m else some b
section
variable {rs ly : List (Int × Int)}
end
end Lf

set_option linter.all false
namespace Lf
open PySem
section
variable {rs ly : List (Int × Int)}
end
end Lf

set_option linter.all false
namespace Lf
open PySem
section
variable {rs rs' ly : List (Int × Int)}
theorem frGo_least {r : Int × Int} {q : Int} (hm : 0 < r.2) (hq : q % r.2 = 0) : ∀ (ly : List (Int × Int)) (p : Int), p ≤ q → (∀ s ∈ ly, q + r.1 ≤ s.1 ∨ s.2 ≤ q) → ly.foldl (frStep r) p ≤ q
  | [], _, h, _ => h
  | s :: ly, p, h, hs => by
    refine frGo_least hm hq ly _ ?_ fun t ht => hs t (List.mem_cons_of_mem _ ht)
    unfold frStep
    by_cases c : s.1 < p + r.1 ∧ p < s.2
    · rw [if_pos c]
      have := hs s List.mem_cons_self
      exact up_le_of hm (by omega) hq
    · rw [if_neg c]; exact h
theorem fr_least {r : Int × Int} {b q : Int} (hm : 0 < r.2) (hq : q % r.2 = 0) (hb : b ≤ q) (hs : ∀ s ∈ ly, q + r.1 ≤ s.1 ∨ s.2 ≤ q) : fr ly b r ≤ q := frGo_least hm hq ly _ (up_le_of hm hb hq) hs
structure Plc (rs ly : List (Int × Int)) (ps : List Int) : Prop where
  ok : ∀ k, k < rs.length → 0 ≤ pk ps k ∧ pk ps k % (rk rs k).2 = 0 ∧ ∀ s ∈ ly, pk ps k + (rk rs k).1 ≤ s.1 ∨ s.2 ≤ pk ps k
  dis : ∀ k j, k < rs.length → j < rs.length → k ≠ j → pk ps k + (rk rs k).1 ≤ pk ps j ∨ pk ps j + (rk rs j).1 ≤ pk ps k
theorem least_at (f : Nat → Int) : ∀ (l : List Nat), l ≠ [] → ∃ k ∈ l, ∀ j ∈ l, f k ≤ f j
  | [], h => absurd rfl h
  | [a], _ => ⟨a, List.mem_cons_self, fun j hj => by rw [List.mem_singleton.mp hj]; exact Int.le_refl _⟩
  | a :: b :: l, _ => by
    obtain ⟨k, hk, h⟩ := least_at f (b :: l) (by simp)
    by_cases c : f a ≤ f k
    · exact ⟨a, List.mem_cons_self, fun j hj => by
        rcases List.mem_cons.mp hj with e | e
        · rw [e]; exact Int.le_refl _
        · exact Int.le_trans c (h j e)⟩
    · exact ⟨k, List.mem_cons_of_mem _ hk, fun j hj => by
        rcases List.mem_cons.mp hj with e | e
        · rw [e]; omega
        · exact h j e⟩
theorem plc_leaf (hg : Good rs) {ps : List Int} {E : Int} (h : Plc rs ly ps) (hE : ∀ k, k < rs.length → pk ps k + (rk rs k).1 ≤ E) : ∀ (n : Nat) (e : Int) (left : List Nat), left.length ≤ n → (∀ k ∈ left, k < rs.length ∧ e ≤ pk ps k) → e ≤ E → ∃ x, x ≤ E ∧ Leaf rs ly e left x
  | 0, e, left, hn, _, he => by
    have : left = [] := List.eq_nil_of_length_eq_zero (by omega)
    rw [this]
    exact ⟨e, he, .done e⟩
  | n + 1, e, left, hn, hl, he => by
    by_cases c : left = []
    · rw [c]; exact ⟨e, he, .done e⟩
    · obtain ⟨k, hk, hmin⟩ := least_at (pk ps) left c
      obtain ⟨hkn, hke⟩ := hl k hk
      obtain ⟨g1, g2, g3⟩ := hg.2 k hkn
      obtain ⟨o1, o2, o3⟩ := h.ok k hkn
      have f1 := fr_least (b := e) (r := rk rs k) (by omega) o2 hke o3
      have hkE := hE k hkn
      obtain ⟨x, x1, x2⟩ := plc_leaf hg h hE n (fr ly e (rk rs k) + (rk rs k).1) (left.filter fun j => decide (j ≠ k)) (by have := less_of hk; omega) (fun j hj => by
        obtain ⟨j1, j2⟩ := List.mem_filter.mp hj
        have j2 := of_decide_eq_true j2
        obtain ⟨jn, je⟩ := hl j j1
        have jm := hmin j j1
        have jr := (hg.2 j jn).1
        refine ⟨jn, ?_⟩
        rcases h.dis k j hkn jn (fun z => j2 z.symm) with d | d
        · omega
        · omega) (by omega)
      exact ⟨x, x1, .step hk x2⟩
theorem due_le (hg : Good rs) {ps : List Int} {E : Int} (h : Plc rs ly ps) (hE : ∀ k, k < rs.length → pk ps k + (rk rs k).1 ≤ E) (hb : baseL ly ≤ E) : dueE rs ly ≤ E := by
  have h0 : 0 ≤ E := Int.le_trans (maxL_d _) hb
  obtain ⟨x, x1, x2⟩ := plc_leaf hg h hE rs.length 0 (List.range rs.length) (by rw [List.length_range]; exact Nat.le_refl _) (fun k hk => ⟨List.mem_range.mp hk, (h.ok k (List.mem_range.mp hk)).1⟩) h0
  have := leaf_least hg x2
  unfold dueE
  omega
def Dj (s t : Int × Int) : Prop := s.2 ≤ t.1 ∨ t.2 ≤ s.1
theorem Dj.symm {s t : Int × Int} (h : Dj s t) : Dj t s := Or.symm h
theorem rising_of {us : List (Int × Int)} (h1 : ∀ s ∈ us, 0 ≤ s.1 ∧ s.1 < s.2) (h2 : us.Pairwise fun s t => s.1 ≤ t.1) (h3 : us.Pairwise Dj) : Rising us := by
  refine ⟨h1, ?_⟩
  have h4 := List.Pairwise.and h2 h3
  refine List.Pairwise.imp_of_mem ?_ h4
  intro s t hs ht ⟨a, b⟩
  have := h1 t ht
  rcases b with b | b
  · exact b
  · omega
end
end Lf

set_option maxHeartbeats 4000000
namespace Lf
open PySem L2
def top (i : Nat) : Stmt := PySem.Challenge.pw_laidfields_k13_whole_no_placing_ends_low.main.body.getD i (.Pass ⟨0, 0, 0, 0⟩)
abbrev s_is_whole : Stmt := top 1
abbrev s_rounded_up : Stmt := top 2
abbrev s_room_of : Stmt := top 3
abbrev s_rooms_of : Stmt := top 4
abbrev s_greatest_multiple : Stmt := top 5
abbrev s_step_of : Stmt := top 6
abbrev s_room_of_row : Stmt := top 7
abbrev s_room_of_record : Stmt := top 8
abbrev s_places_behind : Stmt := top 9
abbrev s_room_of_choice : Stmt := top 10
abbrev s_chosen_at : Stmt := top 11
abbrev s_placed_closely : Stmt := top 13
abbrev s_is_placing : Stmt := top 14
abbrev s_is_place : Stmt := top 15
abbrev s_share_no_byte : Stmt := top 16
abbrev s_stretches_at : Stmt := top 17
abbrev s_greatest_end : Stmt := top 18
abbrev s_closest_places : Stmt := top 19
abbrev s_closest_way : Stmt := top 20
abbrev s_places_back_from : Stmt := top 21
abbrev s_free_place : Stmt := top 22
abbrev s_law_cell_at : Stmt := top 24
abbrev s_law_stir : Stmt := top 25
abbrev s_law_deck : Stmt := top 26
abbrev s_law_next : Stmt := top 27
abbrev s_law_lying : Stmt := top 28
abbrev s_law_lower : Stmt := top 29
abbrev s_law : Stmt := top 30
theorem sc_is_whole : FnScope ["thing"] ["thing"] (defScope s_is_whole) := ⟨rfl, rfl, rfl, by decide +kernel, rfl, by decide +kernel, by decide +kernel⟩
theorem sc_rounded_up : FnScope ["number", "m"] ["number", "m"] (defScope s_rounded_up) := ⟨rfl, rfl, rfl, by decide +kernel, rfl, by decide +kernel, by decide +kernel⟩
theorem sc_room_of : FnScope ["kind"] ["kind"] (defScope s_room_of) := ⟨rfl, rfl, rfl, by decide +kernel, rfl, by decide +kernel, by decide +kernel⟩
theorem sc_rooms_of : FnScope ["kinds"] ["kinds"] (defScope s_rooms_of) := ⟨rfl, rfl, rfl, by decide +kernel, rfl, by decide +kernel, by decide +kernel⟩
theorem sc_greatest_multiple : FnScope ["rooms"] ["rooms"] (defScope s_greatest_multiple) := ⟨rfl, rfl, rfl, by decide +kernel, rfl, by decide +kernel, by decide +kernel⟩
theorem sc_step_of : FnScope ["room"] ["room"] (defScope s_step_of) := ⟨rfl, rfl, rfl, by decide +kernel, rfl, by decide +kernel, by decide +kernel⟩
theorem sc_room_of_row : FnScope ["kind", "n", "room"] ["kind", "n"] (defScope s_room_of_row) := ⟨rfl, rfl, rfl, by decide +kernel, rfl, by decide +kernel, by decide +kernel⟩
theorem sc_room_of_record : FnScope ["kinds", "rooms", "multiple", "ends"] ["kinds"] (defScope s_room_of_record) := ⟨rfl, rfl, rfl, by decide +kernel, rfl, by decide +kernel, by decide +kernel⟩
theorem sc_places_behind : FnScope ["rooms", "places", "end", "room", "place"] ["rooms"] (defScope s_places_behind) := ⟨rfl, rfl, rfl, by decide +kernel, rfl, by decide +kernel, by decide +kernel⟩
theorem sc_room_of_choice : FnScope ["kinds", "rooms", "multiple", "greatest"] ["kinds"] (defScope s_room_of_choice) := ⟨rfl, rfl, rfl, by decide +kernel, rfl, by decide +kernel, by decide +kernel⟩
theorem sc_chosen_at : FnScope ["multiple"] ["multiple"] (defScope s_chosen_at) := ⟨rfl, rfl, rfl, by decide +kernel, rfl, by decide +kernel, by decide +kernel⟩
theorem sc_placed_closely : FnScope ["kinds", "lying", "rooms", "places"] ["kinds", "lying"] (defScope s_placed_closely) := ⟨rfl, rfl, rfl, by decide +kernel, rfl, by decide +kernel, by decide +kernel⟩
theorem sc_is_placing : FnScope ["kinds", "lying", "places", "rooms"] ["kinds", "lying", "places"] (defScope s_is_placing) := ⟨rfl, rfl, rfl, by decide +kernel, rfl, by decide +kernel, by decide +kernel⟩
theorem sc_is_place : FnScope ["thing", "multiple"] ["thing", "multiple"] (defScope s_is_place) := ⟨rfl, rfl, rfl, by decide +kernel, rfl, by decide +kernel, by decide +kernel⟩
theorem sc_share_no_byte : FnScope ["rising"] ["rising"] (defScope s_share_no_byte) := ⟨rfl, rfl, rfl, by decide +kernel, rfl, by decide +kernel, by decide +kernel⟩
theorem sc_stretches_at : FnScope ["rooms", "places"] ["rooms", "places"] (defScope s_stretches_at) := ⟨rfl, rfl, rfl, by decide +kernel, rfl, by decide +kernel, by decide +kernel⟩
theorem sc_greatest_end : FnScope ["stretches"] ["stretches"] (defScope s_greatest_end) := ⟨rfl, rfl, rfl, by decide +kernel, rfl, by decide +kernel, by decide +kernel⟩
theorem sc_closest_places : FnScope ["rooms", "lying", "ways", "group"] ["rooms", "lying"] (defScope s_closest_places) := ⟨rfl, rfl, rfl, by decide +kernel, rfl, by decide +kernel, by decide +kernel⟩
theorem sc_closest_way : FnScope ["group", "ways", "rooms", "lying", "found", "k", "room", "place"] ["group", "ways", "rooms", "lying"] (defScope s_closest_way) := ⟨rfl, rfl, rfl, by decide +kernel, rfl, by decide +kernel, by decide +kernel⟩
theorem sc_places_back_from : FnScope ["ways", "how_many", "places", "group", "way"] ["ways", "how_many"] (defScope s_places_back_from) := ⟨rfl, rfl, rfl, by decide +kernel, rfl, by decide +kernel, by decide +kernel⟩
theorem sc_free_place : FnScope ["begin", "room", "lying", "place", "stretch"] ["begin", "room", "lying"] (defScope s_free_place) := ⟨rfl, rfl, rfl, by decide +kernel, rfl, by decide +kernel, by decide +kernel⟩
theorem sc_law_cell_at : FnScope ["script", "k"] ["script", "k"] (defScope s_law_cell_at) := ⟨rfl, rfl, rfl, by decide +kernel, rfl, by decide +kernel, by decide +kernel⟩
theorem sc_law_stir : FnScope ["cell", "k", "one"] ["cell", "k"] (defScope s_law_stir) := ⟨rfl, rfl, rfl, by decide +kernel, rfl, by decide +kernel, by decide +kernel⟩
theorem sc_law_deck : FnScope ["cell", "many", "found", "digits", "k", "number"] ["cell", "many"] (defScope s_law_deck) := ⟨rfl, rfl, rfl, by decide +kernel, rfl, by decide +kernel, by decide +kernel⟩
theorem sc_law_next : FnScope ["deck"] ["deck"] (defScope s_law_next) := ⟨rfl, rfl, rfl, by decide +kernel, rfl, by decide +kernel, by decide +kernel⟩
theorem sc_law_lying : FnScope ["deck", "found", "end", "k", "low"] ["deck"] (defScope s_law_lying) := ⟨rfl, rfl, rfl, by decide +kernel, rfl, by decide +kernel, by decide +kernel⟩
theorem sc_law_lower : FnScope ["kinds", "lying", "end", "pile", "word", "room", "m", "longer", "laid", "place"] ["kinds", "lying", "end"] (defScope s_law_lower) := ⟨rfl, rfl, rfl, by decide +kernel, rfl, by decide +kernel, by decide +kernel⟩
theorem sc_law : FnScope ["script", "k", "deck", "lying", "kinds", "j", "places", "end", "base"] ["script"] (defScope s_law) := ⟨rfl, rfl, rfl, by decide +kernel, rfl, by decide +kernel, by decide +kernel⟩

def rdt (r : Int × Int) : Dt := .tup [.int r.1, .int r.2]
theorem rooms_at {H : Hp} {rs : List (Int × Int)} {vs : List V} {i : Nat} {x : V} (h : IsDs H (rs.map rdt) vs) (e : vs[i]? = some x) : ∃ r p, rs[i]? = some r ∧ x = .ref p ∧ H p = some (.tup [.int r.1, .int r.2]) := by
  obtain ⟨d, a, b⟩ := h.get e
  rw [List.getElem?_map] at a
  cases q : rs[i]? with
  | none => rw [q] at a; cases a
  | some r =>
    rw [q] at a
    cases a
    obtain ⟨p, ws, e1, e2, v1, r1, e3, e4, v2, r2, e5, e6, e7⟩ := b
    cases e4
    cases e6
    cases e7
    subst e5
    subst e3
    exact ⟨r, p, rfl, e1, e2⟩
theorem take_snoc {α : Type} {l : List α} {i : Nat} {x : α} (h : l[i]? = some x) : l.take (i + 1) = l.take i ++ [x] := by
  rw [List.take_succ, h]
  rfl
theorem bnd12 {n : Nat} (h : n ≤ 12) : bnd n < 2 ^ 150 := Int.lt_of_le_of_lt (bnd_mono h) (by decide)
def spRU : Sp := fun vs H Q _ => ∃ n m : Int, vs = [.int n, .int m] ∧ 0 ≤ n ∧ n < 2 ^ 200 ∧ 0 < m ∧ m < 2 ^ 200 ∧ Q (.int (up n m)) H
def spSO : Sp := fun vs H Q _ => ∃ (p : Addr) (n m : Int), vs = [.ref p] ∧ H p = some (.tup [.int n, .int m]) ∧ 0 ≤ n ∧ n < 2 ^ 200 ∧ 0 < m ∧ m < 2 ^ 200 ∧ Q (.int (up n m)) H
def spCA : Sp := fun vs H Q _ => ∃ m : Int, vs = [.int m] ∧ 0 < m ∧ m < 2 ^ 200 ∧ Q (.int (up 1 m)) H
def spGM : Sp := fun vs H Q _ => ∃ (a : Addr) (ws : List V) (rs : List (Int × Int)), vs = [.ref a] ∧ H a = some (.lst ws) ∧ IsDs H (rs.map rdt) ws ∧ rs.length ≤ 10 ∧ (∀ r ∈ rs, 1 ≤ r.2) ∧
  ∀ H', Same H H' → Q (.int (maxL 1 (rs.map (·.2)))) H'
def spPB : Sp := fun vs H Q _ => ∃ (a : Addr) (ws : List V) (rs : List (Int × Int)), vs = [.ref a] ∧ H a = some (.lst ws) ∧ IsDs H (rs.map rdt) ws ∧ rs.length ≤ 10 ∧ (∀ r ∈ rs, Bd (2 ^ 150) r) ∧
  ∀ l H', Same H H' → H' l = some (.lst ((plcs 0 rs).map V.int)) → Q (.ref l) H'
def spRO (n : Nat) : Sp := fun vs H Q _ => ∃ (kd : Kd) (v : V), vs = [v] ∧ IsD H kd.dt v ∧ kd.Ok ∧ kd.deep ≤ n ∧ n ≤ 12 ∧ ∀ p H', Same H H' → H' p = some (.tup [.int kd.rm.1, .int kd.rm.2]) → Q (.ref p) H'
def spRS (n : Nat) : Sp := fun vs H Q _ => ∃ (a : Addr) (ws : List V) (ks : List Kd), vs = [.ref a] ∧ H a = some (.lst ws) ∧ IsDs H (dtK ks) ws ∧ okK ks ∧ deepK ks ≤ n ∧ ks.length ≤ 10 ∧ n ≤ 12 ∧
  ∀ l zs H', Same H H' → H' l = some (.lst zs) → IsDs H' ((rmK ks).map rdt) zs → Q (.ref l) H'
def spRR (n : Nat) : Sp := fun vs H Q _ => ∃ (kd : Kd) (v : V) (m : Int), vs = [v, .int m] ∧ IsD H kd.dt v ∧ kd.Ok ∧ kd.deep ≤ n ∧ n ≤ 12 ∧ 0 ≤ m ∧ m ≤ 100 ∧ ∀ p H', Same H H' → H' p = some (.tup [.int (m * up kd.rm.1 kd.rm.2), .int kd.rm.2]) → Q (.ref p) H'
def spRL (f : List (Int × Int) → Int × Int) (n : Nat) : Sp := fun vs H Q _ => ∃ (a : Addr) (ws : List V) (ks : List Kd), vs = [.ref a] ∧ H a = some (.lst ws) ∧ IsDs H (dtK ks) ws ∧ okK ks ∧ deepK ks ≤ n ∧ ks.length ≤ 10 ∧ n ≤ 12 ∧
  ∀ p H', Same H H' → H' p = some (.tup [.int (f (rmK ks)).1, .int (f (rmK ks)).2]) → Q (.ref p) H'
section
variable {P : Program} {w : World} {K : PySem.W.Frag} {mg : Str → Option Value} {base : Heap} {f g fRU fGM fPB fRS fRO fRR fRC fRH fSO fCA : Addr} {fd gd dRU dGM dPB dRS dRO dRR dRC dRH dSO dCA : FuncData} {n j : Nat}
theorem ok_ru (F : Fun K "rounded_up" "rounded_up" s_rounded_up f fd) : FnOk P w K mg base CX0 1 f fd ["number", "m"] spRU := by
  refine F.ok sc_rounded_up (fun vs H Q E h => ?_) (fun cdv A outer s H vs Q E hr h => ?_)
  · obtain ⟨n, m, rfl, _⟩ := h
    rfl
  obtain ⟨n, m, rfl, h0, h1, h2, h3, q⟩ := h
  refine ⟨_, pss_one (ps_ret (pe_op op_mulB (pe_op op_fdivB (pe_op op_sub (pe_op op_add (pv 0) (pv 1)) pe_int) (pv 1)) (pv 1))), ?_⟩
  have d0 : 0 ≤ (n + m - 1) / m := Int.ediv_nonneg (by omega) (by omega)
  have d1 : (n + m - 1) / m ≤ n + m - 1 := Int.ediv_le_self m (by omega)
  refine ⟨_, rfl, _, rfl, _, _, rfl, rfl, _, _, rfl, rfl, _, rfl, _, _, rfl, rfl, ⟨h2, by omega⟩, _, rfl, _, _, rfl, rfl, ⟨?_, ?_⟩, q⟩
  · generalize (n + m - 1) / m = z at d0 d1
    omega
  · omega
theorem ok_so (F : Fun K "step_of" "step_of" s_step_of f fd) (GRU : FnOk P w K mg base CX0 1 fRU dRU ["number", "m"] spRU) (bRU : Binds K dRU ["number", "m"] []) (kRU : PySem.W.keepIn K (.ref fRU) = true) (mRU : mg "rounded_up" = some (.ref fRU)) :
    FnOk P w K mg base CX0 2 f fd ["room"] spSO := by
  refine F.ok sc_step_of (fun vs H Q E h => ?_) (fun cdv A outer s H vs Q E hr h => ?_)
  · obtain ⟨p, n, m, rfl, _⟩ := h
    rfl
  obtain ⟨p, n, m, rfl, hp, h0, h1, h2, h3, q⟩ := h
  refine ⟨_, pss_one (ps_ret (pe_call GRU (hr.mono (by omega)) rfl mRU kRU bRU .nil pass0 (pa_cons (pe_ix ix_tup (pv 0) pe_int (fun _ _ => rfl)) (pa_cons (pe_ix ix_tup (pv 0) pe_int (fun _ _ => rfl)) pa_nil)))), ?_⟩
  exact ⟨_, rfl, p, _, _, _, rfl, rfl, SqT.of hp, rfl, _, rfl, p, _, _, _, rfl, rfl, SqT.of hp, rfl, n, m, rfl, h0, h1, h2, h3, q⟩
theorem ok_ca (F : Fun K "chosen_at" "chosen_at" s_chosen_at f fd) (GRU : FnOk P w K mg base CX0 1 fRU dRU ["number", "m"] spRU) (bRU : Binds K dRU ["number", "m"] []) (kRU : PySem.W.keepIn K (.ref fRU) = true) (mRU : mg "rounded_up" = some (.ref fRU)) :
    FnOk P w K mg base CX0 2 f fd ["multiple"] spCA := by
  refine F.ok sc_chosen_at (fun vs H Q E h => ?_) (fun cdv A outer s H vs Q E hr h => ?_)
  · obtain ⟨m, rfl, _⟩ := h
    rfl
  obtain ⟨m, rfl, h2, h3, q⟩ := h
  refine ⟨_, pss_one (ps_ret (pe_call GRU (hr.mono (by omega)) rfl mRU kRU bRU .nil pass0 (pa_cons pe_int (pa_cons (pv 0) pa_nil)))), ?_⟩
  exact ⟨_, rfl, 1, m, rfl, by decide, by decide, h2, h3, q⟩
theorem ok_gm (F : Fun K "greatest_multiple" "greatest_multiple" s_greatest_multiple f fd) (m_max : mg "max" = none) : FnOk P w K mg base CX0 1 f fd ["rooms"] spGM := by
  refine F.ok sc_greatest_multiple (fun vs H Q E h => ?_) (fun cdv A outer s H vs Q E hr h => ?_)
  · obtain ⟨a, ws, rs, rfl, _⟩ := h
    rfl
  obtain ⟨a, ws, rs, rfl, ha, hd, hl, h1, q⟩ := h
  have hlw : ws.length = rs.length := by rw [hd.len, List.length_map]
  refine ⟨_, (pss_one (ps_ret (pe_callBK (call_maxD rfl) rfl m_max bt_max (pa_cons (pe_comp (dsc := defScope s_greatest_multiple) (N := ["rooms"]) (tgs := ["room"]) (outs := []) (N' := ["room"]) ⟨rfl, by decide +kernel, by decide +kernel, by decide +kernel, rfl, by decide +kernel, by decide +kernel, by decide +kernel⟩ (pi_list (pv 0)) (fun _ _ _ _ _ => (pg_name (i := 0) (show (["room"] : List Str).Nodup by decide +kernel) rfl (Or.inl rfl) (.inr rfl))) (tgt_name (by decide)) (fun _ _ _ _ _ => pcs_nil) (fun _ _ _ _ _ => (pe_ix (ix_tupK K) (pv 0) pe_int (fun _ _ => rfl)))) pa_nil) (pk_cons pe_int pk_nil)))), ?_⟩
  refine ⟨_, rfl, a, rfl, ⟨_, SqL.of ha⟩, ?_⟩
  refine comp_list (xs := ws) (fun i acc H' => Same H H' ∧ acc = (rs.take i).map fun r => V.int r.2) (by omega) ⟨Same.refl _, rfl⟩ (fun i acc H' hi ⟨e, ea⟩ => ⟨SqL.of (e _ _ ha), by rw [ea, List.length_map, List.length_take]; omega⟩) (fun i x acc H' hx ⟨e, ea⟩ => ?_) (fun acc H' ⟨e, ea⟩ l hn => ?_)
  · obtain ⟨r, p, er, rfl, hp⟩ := rooms_at hd hx
    refine nameYes ?_
    refine ⟨_, rfl, p, _, _, _, rfl, rfl, SqT.of (e _ _ hp), rfl, e, ?_⟩
    rw [ea, take_snoc er, List.map_append]
    rfl
  · rw [hlw, List.take_length] at ea
    refine ⟨l, rs.map (·.2), 1, rfl, rfl, SqL.of (by rw [upd_same, ea, List.map_map]; rfl), fun en => ?_, fun M hM hle => ?_⟩
    · rw [en] at q
      exact q _ (e.trans (same_new hn _))
    · obtain ⟨r, hr', rfl⟩ := List.mem_map.mp hM
      rw [maxL_is (d := 1) hM (h1 r hr') hle]
      exact q _ (e.trans (same_new hn _))
theorem ok_pb (F : Fun K "places_behind" "places_behind" s_places_behind f fd) (GRU : FnOk P w K mg base CX0 1 fRU dRU ["number", "m"] spRU) (bRU : Binds K dRU ["number", "m"] []) (kRU : PySem.W.keepIn K (.ref fRU) = true) (mRU : mg "rounded_up" = some (.ref fRU)) :
    FnOk P w K mg base CX0 2 f fd ["rooms"] spPB := by
  refine F.ok sc_places_behind (fun vs H Q E h => ?_) (fun cdv A outer s H vs Q E hr h => ?_)
  · obtain ⟨a, ws, rs, rfl, _⟩ := h
    rfl
  obtain ⟨a, ws, rs, rfl, ha, hd, hl, h1, q⟩ := h
  have hlw : ws.length = rs.length := by rw [hd.len, List.length_map]
  refine ⟨_, (pss_cons (ps_set (i := 1) sc_places_behind.nd rfl (Or.inl rfl) (pe_lst pa_nil))
    (pss_cons (ps_set (i := 2) sc_places_behind.nd rfl (Or.inl rfl) pe_int)
    (pss_cons (ps_for PassesOwn.never rfl (pi_list (pv 0)) (pg_name (i := 3) sc_places_behind.nd rfl (Or.inl rfl)) (pss_cons (ps_set (i := 4) sc_places_behind.nd rfl (Or.inl rfl) (pe_call GRU (hr.mono (by omega)) rfl mRU kRU bRU .nil pass0 (pa_cons (pv 2) (pa_cons (pe_ix ix_tup (pv 3) pe_int (fun _ _ => rfl)) pa_nil))))
    (pss_cons (ps_expr (pe_bm PySem.F.plainAttrs_list PySem.F.slot_list_append PySem.F.type_list_append mt_append (pv 1) (pa_cons (pv 4) pa_nil)))
    (pss_one (ps_set (i := 2) sc_places_behind.nd rfl (Or.inl rfl) (pe_op op_add (pv 4) (pe_ix ix_tup (pv 3) pe_int (fun _ _ => rfl))))))))
    (pss_one (ps_ret (pv 1)))))), ?_⟩
  refine ⟨lists3 0 (by decide), fun l0 n0 => ?_⟩
  have k0 : ∀ (o : HO) (H' : Hp), Same H H' → Same H (upd H' l0 o) := fun o H' e b u hb => by rw [upd_ne (ne_of_none hb n0)]; exact e b u hb
  refine ⟨_, rfl, a, rfl, ⟨_, SqL.of ((same_new n0 _) _ _ ha)⟩, ?_⟩
  refine for_list (xs := ws) (fun i σ H' => ∃ y3 y4, σ = [some (.ref a), some (.ref l0), some (.int (lastEnd 0 (rs.take i))), y3, y4] ∧ Same H H' ∧ H' l0 = some (.lst ((plcs 0 (rs.take i)).map V.int))) ⟨_, _, rfl, same_new n0 _, upd_same⟩
    (fun i σ H' _ ⟨y3, y4, es, e, e0⟩ => SqL.of (e _ _ ha)) (fun i x σ H' hx ⟨y3, y4, es, e, e0⟩ => ?_) (fun σ H' ⟨y3, y4, es, e, e0⟩ => ?_)
  · subst es
    obtain ⟨r, p, er, rfl, hp⟩ := rooms_at hd hx
    obtain ⟨b0, b1, b2, b3⟩ := h1 r (List.mem_of_getElem? er)
    have bt : ∀ s ∈ rs.take i, Bd (2 ^ 150) s := fun s hs => h1 s (List.mem_of_mem_take hs)
    obtain ⟨c0, c1⟩ := lastEnd_le (e := 0) (by omega) bt
    have c2 : ((rs.take i).length : Int) * (2 ^ 150 + 8) ≤ 10 * (2 ^ 150 + 8) := Int.mul_le_mul_of_nonneg_right (by rw [List.length_take]; omega) (by decide)
    refine ⟨_, rfl, _, rfl, p, _, _, _, rfl, rfl, SqT.of (e _ _ hp), rfl, _, _, rfl, c0, by omega, by omega, by omega, ?_⟩
    refine ⟨_, rfl, .inl ⟨rfl, _, SqL.of e0⟩, _, rfl, l0, _, _, rfl, rfl, e0, ?_, ?_⟩
    · rw [List.length_map, plcs_length, List.length_take]
      exact small1000 (by omega)
    refine ⟨_, rfl, _, rfl, p, _, _, _, rfl, rfl, SqT.of ((k0 _ _ e) _ _ hp), rfl, _, _, rfl, rfl, ?_⟩
    refine ⟨some (.ref p), some (.int (up (lastEnd 0 (rs.take i)) r.2)), ?_, k0 _ _ e, ?_⟩
    · rw [take_snoc er, lastEnd_snoc]
      rfl
    · rw [upd_same, take_snoc er, plcs_snoc, List.map_append]
      rfl
  · rw [hlw, List.take_length] at es e0
    subst es
    exact ⟨_, rfl, q l0 H' e e0⟩

theorem kinds_at {H : Hp} {x : V} : ∀ {ks : List Kd} {ws : List V} {i : Nat}, IsDs H (dtK ks) ws → ws[i]? = some x → ∃ k, ks[i]? = some k ∧ IsD H k.dt x
  | [], _, _, h, e => by cases (show _ = [] from h); simp at e
  | k :: r, _, 0, ⟨u, vr, h1, h2, h3⟩, e => by subst h1; simp at e; subst e; exact ⟨k, rfl, h2⟩
  | k :: r, _, i + 1, ⟨u, vr, h1, h2, h3⟩, e => by subst h1; obtain ⟨d', a, b⟩ := kinds_at (i := i) h3 (by simpa using e); exact ⟨d', by simpa using a, b⟩
theorem ok_at : ∀ {ks : List Kd} {i : Nat} {k : Kd}, okK ks → ks[i]? = some k → k.Ok ∧ k.deep ≤ deepK ks
  | [], _, _, _, e => by simp at e
  | k' :: r, 0, k, h, e => by simp at e; subst e; exact ⟨h.1, Nat.le_max_left _ _⟩
  | k' :: r, i + 1, k, h, e => by obtain ⟨a, b⟩ := ok_at (i := i) h.2 (by simpa using e); exact ⟨a, Nat.le_trans b (Nat.le_max_right _ _)⟩
theorem rmK_at : ∀ {ks : List Kd} {i : Nat} {k : Kd}, ks[i]? = some k → (rmK ks)[i]? = some k.rm
  | [], _, _, e => by simp at e
  | k' :: r, 0, k, e => by simp at e; subst e; rfl
  | k' :: r, i + 1, k, e => by show (rmK r)[i]? = _; exact rmK_at (by simpa using e)
theorem dtK_len : ∀ (ks : List Kd), (dtK ks).length = ks.length
  | [] => rfl
  | k :: r => by show (dtK r).length + 1 = _; rw [dtK_len r]; rfl
theorem bdK12 {ks : List Kd} (h : okK ks) (hd : deepK ks ≤ n) (hn : n ≤ 12) : ∀ r ∈ rmK ks, Bd (2 ^ 150) r := fun r hr => (bdK ks h r hr).mono (Int.le_of_lt (bnd12 (Nat.le_trans hd hn)))
theorem bd12 {k : Kd} (h : k.Ok) (hd : k.deep ≤ n) (hn : n ≤ 12) : Bd (2 ^ 150) k.rm := (Kd.bd k h).mono (Int.le_of_lt (bnd12 (Nat.le_trans hd hn)))
theorem ok_rs (F : Fun K "rooms_of" "rooms_of" s_rooms_of f fd) (GRO : FnOk P w K mg base CX0 j fRO dRO ["kind"] (spRO n)) (bRO : Binds K dRO ["kind"] []) (kRO : PySem.W.keepIn K (.ref fRO) = true) (mRO : mg "room_of" = some (.ref fRO)) :
    FnOk P w K mg base CX0 (j + 1) f fd ["kinds"] (spRS n) := by
  refine F.ok sc_rooms_of (fun vs H Q E h => ?_) (fun cdv A outer s H vs Q E hr h => ?_)
  · obtain ⟨a, ws, ks, rfl, _⟩ := h
    rfl
  obtain ⟨a, ws, ks, rfl, ha, hd, hk, hdp, hl, hn, q⟩ := h
  have hlw : ws.length = ks.length := by rw [hd.len, dtK_len]
  refine ⟨_, (pss_one (ps_ret (pe_comp (dsc := defScope s_rooms_of) (N := ["kinds"]) (tgs := ["kind"]) (outs := []) (N' := ["kind"]) ⟨rfl, by decide +kernel, by decide +kernel, by decide +kernel, rfl, by decide +kernel, by decide +kernel, by decide +kernel⟩ (pi_list (pv 0)) (fun _ _ _ _ _ => (pg_name (i := 0) (show (["kind"] : List Str).Nodup by decide +kernel) rfl (Or.inl rfl) (.inr rfl))) (tgt_name (by decide)) (fun _ _ _ _ _ => pcs_nil) (fun _ _ _ _ _ => (pe_call GRO hr rfl mRO kRO bRO .nil pass0 (pa_cons (pv 0) pa_nil)))))), ?_⟩
  refine ⟨_, rfl, a, rfl, ⟨_, SqL.of ha⟩, ?_⟩
  refine comp_list (xs := ws) (fun i acc H' => Same H H' ∧ IsDs H' (((rmK ks).take i).map rdt) acc) (by omega) ⟨Same.refl _, rfl⟩ (fun i acc H' hi ⟨e, ea⟩ => ⟨SqL.of (e _ _ ha), by rw [ea.len, List.length_map, List.length_take]; omega⟩) (fun i x acc H' hx ⟨e, ea⟩ => ?_) (fun acc H' ⟨e, ea⟩ l hn' => ?_)
  · obtain ⟨k, ek, hkx⟩ := kinds_at hd hx
    obtain ⟨ok, dk⟩ := ok_at hk ek
    refine nameYes ?_
    refine ⟨_, rfl, k, x, rfl, hkx.same e, ok, by omega, hn, fun p H'' e2 hp => ⟨e.trans e2, ?_⟩⟩
    rw [take_snoc (rmK_at ek), List.map_append]
    exact (ea.same e2).snoc (show IsD H'' (rdt k.rm) (.ref p) from ⟨p, _, rfl, hp, _, _, rfl, rfl, _, _, rfl, rfl, rfl⟩)
  · rw [hlw, ← lenK, List.take_length] at ea
    exact q l acc _ (e.trans (same_new hn' _)) upd_same (ea.same (same_new hn' _))
theorem ok_rr (F : Fun K "room_of_row" "room_of_row" s_room_of_row f fd) (GRO : FnOk P w K mg base CX0 j fRO dRO ["kind"] (spRO n)) (bRO : Binds K dRO ["kind"] []) (kRO : PySem.W.keepIn K (.ref fRO) = true) (mRO : mg "room_of" = some (.ref fRO))
    (GSO : FnOk P w K mg base CX0 2 fSO dSO ["room"] spSO) (bSO : Binds K dSO ["room"] []) (kSO : PySem.W.keepIn K (.ref fSO) = true) (mSO : mg "step_of" = some (.ref fSO)) (hj : 2 ≤ j) :
    FnOk P w K mg base CX0 (j + 1) f fd ["kind", "n"] (spRR n) := by
  refine F.ok sc_room_of_row (fun vs H Q E h => ?_) (fun cdv A outer s H vs Q E hr h => ?_)
  · obtain ⟨kd, v, m, rfl, _⟩ := h
    rfl
  obtain ⟨kd, v, m, rfl, hv, hk, hdp, hn, h0, h1, q⟩ := h
  obtain ⟨b0, b1, b2, b3⟩ := bd12 hk hdp hn
  obtain ⟨u1, u2⟩ := up_bounds (n := kd.rm.1) (m := kd.rm.2) (by omega)
  refine ⟨_, (pss_cons (ps_set (i := 2) sc_room_of_row.nd rfl (Or.inl rfl) (pe_call GRO hr rfl mRO kRO bRO .nil pass0 (pa_cons (pv 0) pa_nil)))
    (pss_one (ps_ret (pe_tup (pa_cons (pe_op op_mulB (pv 1) (pe_call GSO (hr.mono hj) rfl mSO kSO bSO .nil pass0 (pa_cons (pv 2) pa_nil))) (pa_cons (pe_ix ix_tup (pv 2) pe_int (fun _ _ => rfl)) pa_nil)))))), ?_⟩
  refine ⟨_, rfl, kd, v, rfl, hv, hk, hdp, hn, fun p H1 e1 hp => ?_⟩
  refine ⟨_, rfl, _, rfl, p, _, _, rfl, hp, b0, by omega, by omega, by omega, _, _, rfl, rfl, ⟨by omega, by omega⟩, _, rfl, p, _, _, _, rfl, rfl, SqT.of hp, rfl, lists3 2 (by decide), fun p2 n2 => ?_⟩
  exact q p2 _ (e1.trans (same_new n2 _)) upd_same
theorem ok_rc (F : Fun K "room_of_record" "room_of_record" s_room_of_record f fd) (GRS : FnOk P w K mg base CX0 j fRS dRS ["kinds"] (spRS n)) (bRS : Binds K dRS ["kinds"] []) (kRS : PySem.W.keepIn K (.ref fRS) = true) (mRS : mg "rooms_of" = some (.ref fRS))
    (GGM : FnOk P w K mg base CX0 1 fGM dGM ["rooms"] spGM) (bGM : Binds K dGM ["rooms"] []) (kGM : PySem.W.keepIn K (.ref fGM) = true) (mGM : mg "greatest_multiple" = some (.ref fGM))
    (GPB : FnOk P w K mg base CX0 2 fPB dPB ["rooms"] spPB) (bPB : Binds K dPB ["rooms"] []) (kPB : PySem.W.keepIn K (.ref fPB) = true) (mPB : mg "places_behind" = some (.ref fPB))
    (GRU : FnOk P w K mg base CX0 1 fRU dRU ["number", "m"] spRU) (bRU : Binds K dRU ["number", "m"] []) (kRU : PySem.W.keepIn K (.ref fRU) = true) (mRU : mg "rounded_up" = some (.ref fRU)) (m_max : mg "max" = none) (m_zip : mg "zip" = none) (hj : 2 ≤ j) :
    FnOk P w K mg base CX0 (j + 1) f fd ["kinds"] (spRL rcdRm n) := by
  refine F.ok sc_room_of_record (fun vs H Q E h => ?_) (fun cdv A outer s H vs Q E hr h => ?_)
  · obtain ⟨a, ws, ks, rfl, _⟩ := h
    rfl
  obtain ⟨a, ws, ks, rfl, ha, hd, hk, hdp, hl, hn, q⟩ := h
  have hb := bdK12 hk hdp hn
  generalize hrs : rmK ks = rs at hb q
  have hlr : rs.length ≤ 10 := by rw [← hrs, lenK]; exact hl
  refine ⟨_, (pss_cons (ps_set (i := 1) sc_room_of_record.nd rfl (Or.inl rfl) (pe_call GRS hr rfl mRS kRS bRS .nil pass0 (pa_cons (pv 0) pa_nil)))
    (pss_cons (ps_set (i := 2) sc_room_of_record.nd rfl (Or.inl rfl) (pe_call GGM (hr.mono (by omega)) rfl mGM kGM bGM .nil pass0 (pa_cons (pv 1) pa_nil)))
    (pss_cons (ps_setC (i := 3) sc_room_of_record.nd rfl rfl (dsc := defScope s_room_of_record) (N := ["kinds", "rooms", "multiple", "ends"]) (tgs := ["place", "room"]) (outs := []) (N' := ["place", "room"]) ⟨rfl, by decide +kernel, by decide +kernel, by decide +kernel, rfl, by decide +kernel, by decide +kernel, by decide +kernel⟩ (pi_zip (t1 := false) (t2 := false) rfl m_zip (pa_cons (pe_call GPB (hr.mono (by omega)) rfl mPB kPB bPB .nil pass0 (pa_cons (pv 1) pa_nil)) (pa_cons (pv 1) pa_nil))) (fun _ _ _ _ _ => (pg_tupK K (n := 2) rfl rfl (pgs_cons (pg_name (i := 0) (show (["place", "room"] : List Str).Nodup by decide +kernel) rfl (Or.inl rfl) (.inr rfl)) (pgs_cons (pg_name (i := 1) (show (["place", "room"] : List Str).Nodup by decide +kernel) rfl (Or.inl rfl) (.inr rfl)) pgs_nil)))) (tgt_tup (tgts_name (by decide) (tgts_name (by decide) tgts_nil tmono_nil) (tmono_name tmono_nil))) (fun _ _ _ _ _ => pcs_nil) (fun _ _ _ _ _ => (pe_op op_add (pv 0) (pe_ix (ix_tupK K) (pv 1) pe_int (fun _ _ => rfl)))))
    (pss_one (ps_ret (pe_tup (pa_cons (pe_call GRU (hr.mono (by omega)) rfl mRU kRU bRU .nil pass0 (pa_cons (pe_callBK (call_maxD rfl) rfl m_max bt_max (pa_cons (pv 3) pa_nil) (pk_cons pe_int pk_nil)) (pa_cons (pv 2) pa_nil))) (pa_cons (pv 2) pa_nil)))))))), ?_⟩
  refine ⟨_, rfl, a, ws, ks, rfl, ha, hd, hk, hdp, hl, hn, fun l zs H1 e1 hz hzs => ?_⟩
  rw [hrs] at hzs
  refine ⟨_, rfl, l, zs, rs, rfl, hz, hzs, hlr, fun r hr => (hb r hr).2.2.1, fun H2 e2 => ?_⟩
  have hz2 := e2 _ _ hz
  have hzs2 := hzs.same e2
  refine ⟨_, rfl, l, zs, rs, rfl, hz2, hzs2, hlr, hb, fun l2 H3 e3 hp => ?_⟩
  have hz3 := e3 _ _ hz2
  have hzs3 := hzs2.same e3
  have hlz : zs.length = rs.length := by rw [hzs.len, List.length_map]
  have hlp : ((plcs 0 rs).map V.int).length = rs.length := by rw [List.length_map, plcs_length]
  have hle : (ends 0 rs).length = rs.length := by rw [ends_zip, List.length_map, List.length_zip, plcs_length]; omega
  obtain ⟨c0, c1⟩ := lastEnd_le (e := 0) (by omega) hb
  have c2 : (rs.length : Int) * (2 ^ 150 + 8) ≤ 10 * (2 ^ 150 + 8) := Int.mul_le_mul_of_nonneg_right (by omega) (by decide)
  obtain ⟨x0, x1⟩ := mx_bd hb
  refine ⟨_, rfl, l2, l, rfl, ⟨_, SqL.of hp⟩, ⟨_, SqL.of hz3⟩, ?_⟩
  refine comp_zip (t1 := false) (t2 := false) (xs := (plcs 0 rs).map V.int) (ys := zs) (fun i acc H' => Same H3 H' ∧ acc = ((ends 0 rs).take i).map V.int) (by omega) (by omega) ⟨Same.refl _, rfl⟩
    (fun i acc H' hi ⟨e, ea⟩ => ⟨SqL.of (e _ _ hp), SqL.of (e _ _ hz3), by rw [ea, List.length_map, List.length_take]; omega⟩) (fun i x y p acc H' hx hy ⟨e, ea⟩ hpn => ?_) (fun acc H' ⟨e, ea⟩ l3 hn3 => ?_)
  · obtain ⟨r, p2, er, rfl, hp2⟩ := rooms_at hzs3 hy
    rw [List.getElem?_map] at hx
    cases ep : (plcs 0 rs)[i]? with
    | none => rw [ep] at hx; cases hx
    | some pl =>
      rw [ep] at hx
      cases hx
      have en : Same H3 (upd H' p (.tup [.int pl, .ref p2])) := e.trans (same_new hpn _)
      refine ⟨p, _, rfl, SqT.of upd_same, rfl, _, _, rfl, _, _, rfl, rfl, ?_⟩
      refine yesT ?_
      refine ⟨_, rfl, _, rfl, p2, _, _, _, rfl, rfl, SqT.of (en _ _ hp2), rfl, _, _, rfl, rfl, en, ?_⟩
      have ee : (ends 0 rs)[i]? = some (pl + r.1) := by
        rw [ends_zip, List.getElem?_map, (List.getElem?_zip_eq_some (z := (pl, r))).mpr ⟨ep, er⟩]
        rfl
      rw [ea, take_snoc ee, List.map_append]
      rfl
  · rw [hlp, ← hle, List.take_length] at ea
    have e3' : Same H (upd H' l3 (.lst acc)) := ((e1.trans e2).trans (e3.trans e)).trans (same_new hn3 _)
    have fin : ∀ (z : Int), z = lastEnd 0 rs → ∀ {D : VK}, (∀ p H'', Same H H'' → H'' p = some (.tup [.int (rcdRm rs).1, .int (rcdRm rs).2]) → D (.ref p) H'') →
        ∃ n m : Int, [V.int z, V.int (maxL 1 (rs.map (·.2)))] ++ [] = [.int n, .int m] ∧ 0 ≤ n ∧ n < 2 ^ 200 ∧ 0 < m ∧ m < 2 ^ 200 ∧ (∃ v, ([some (V.ref a), some (.ref l), some (.int (maxL 1 (rs.map (·.2)))), some (.ref l3)] : St)[2]? = some (some v) ∧ ([V.int (up n m), v] : List V).length ≤ sizeLine ∧
          ∀ p, (upd H' l3 (.lst acc)) p = none → D (.ref p) (upd (upd H' l3 (.lst acc)) p (.tup [.int (up n m), v]))) := fun z ez D hD => by
      subst ez
      exact ⟨_, _, rfl, c0, by omega, by omega, by omega, _, rfl, lists3 2 (by decide), fun p hp => hD p _ (e3'.trans (same_new hp _)) upd_same⟩
    refine ⟨_, rfl, l3, ends 0 rs, 0, rfl, rfl, SqL.of (by rw [upd_same, ea]), fun en => ?_, fun M hM hle => ?_⟩
    · have : rs = [] := by
        cases rs with
        | nil => rfl
        | cons r t => cases en
      refine ⟨_, rfl, ?_⟩
      exact fin 0 (by rw [this]; rfl) q
    · have hne : rs ≠ [] := fun z => by rw [z] at hM; cases hM
      obtain ⟨t1, t2⟩ := ends_max (e := 0) (fun r hr => ⟨(hb r hr).1, by have := (hb r hr).2.2.1; omega⟩) hne
      refine ⟨_, rfl, ?_⟩
      exact fin M (Int.le_antisymm (t2 M hM) (hle _ t1)) q
theorem ok_rh (F : Fun K "room_of_choice" "room_of_choice" s_room_of_choice f fd) (GRS : FnOk P w K mg base CX0 j fRS dRS ["kinds"] (spRS n)) (bRS : Binds K dRS ["kinds"] []) (kRS : PySem.W.keepIn K (.ref fRS) = true) (mRS : mg "rooms_of" = some (.ref fRS))
    (GGM : FnOk P w K mg base CX0 1 fGM dGM ["rooms"] spGM) (bGM : Binds K dGM ["rooms"] []) (kGM : PySem.W.keepIn K (.ref fGM) = true) (mGM : mg "greatest_multiple" = some (.ref fGM))
    (GCA : FnOk P w K mg base CX0 2 fCA dCA ["multiple"] spCA) (bCA : Binds K dCA ["multiple"] []) (kCA : PySem.W.keepIn K (.ref fCA) = true) (mCA : mg "chosen_at" = some (.ref fCA))
    (GRU : FnOk P w K mg base CX0 1 fRU dRU ["number", "m"] spRU) (bRU : Binds K dRU ["number", "m"] []) (kRU : PySem.W.keepIn K (.ref fRU) = true) (mRU : mg "rounded_up" = some (.ref fRU)) (m_max : mg "max" = none) (hj : 2 ≤ j) :
    FnOk P w K mg base CX0 (j + 1) f fd ["kinds"] (spRL choRm n) := by
  refine F.ok sc_room_of_choice (fun vs H Q E h => ?_) (fun cdv A outer s H vs Q E hr h => ?_)
  · obtain ⟨a, ws, ks, rfl, _⟩ := h
    rfl
  obtain ⟨a, ws, ks, rfl, ha, hd, hk, hdp, hl, hn, q⟩ := h
  have hb := bdK12 hk hdp hn
  generalize hrs : rmK ks = rs at hb q
  have hlr : rs.length ≤ 10 := by rw [← hrs, lenK]; exact hl
  refine ⟨_, (pss_cons (ps_set (i := 1) sc_room_of_choice.nd rfl (Or.inl rfl) (pe_call GRS hr rfl mRS kRS bRS .nil pass0 (pa_cons (pv 0) pa_nil)))
    (pss_cons (ps_set (i := 2) sc_room_of_choice.nd rfl (Or.inl rfl) (pe_call GGM (hr.mono (by omega)) rfl mGM kGM bGM .nil pass0 (pa_cons (pv 1) pa_nil)))
    (pss_cons (ps_set (i := 3) sc_room_of_choice.nd rfl (Or.inl rfl) (pe_callBK (call_maxD rfl) rfl m_max bt_max (pa_cons (pe_comp (dsc := defScope s_room_of_choice) (N := ["kinds", "rooms", "multiple", "greatest"]) (tgs := ["room"]) (outs := []) (N' := ["room"]) ⟨rfl, by decide +kernel, by decide +kernel, by decide +kernel, rfl, by decide +kernel, by decide +kernel, by decide +kernel⟩ (pi_list (pv 1)) (fun _ _ _ _ _ => (pg_name (i := 0) (show (["room"] : List Str).Nodup by decide +kernel) rfl (Or.inl rfl) (.inr rfl))) (tgt_name (by decide)) (fun _ _ _ _ _ => pcs_nil) (fun _ _ _ _ _ => (pe_ix (ix_tupK K) (pv 0) pe_int (fun _ _ => rfl)))) pa_nil) (pk_cons pe_int pk_nil)))
    (pss_one (ps_ret (pe_tup (pa_cons (pe_call GRU (hr.mono (by omega)) rfl mRU kRU bRU .nil pass0 (pa_cons (pe_op op_add (pe_call GCA (hr.mono (by omega)) rfl mCA kCA bCA .nil pass0 (pa_cons (pv 2) pa_nil)) (pv 3)) (pa_cons (pv 2) pa_nil))) (pa_cons (pv 2) pa_nil)))))))), ?_⟩
  refine ⟨_, rfl, a, ws, ks, rfl, ha, hd, hk, hdp, hl, hn, fun l zs H1 e1 hz hzs => ?_⟩
  rw [hrs] at hzs
  refine ⟨_, rfl, l, zs, rs, rfl, hz, hzs, hlr, fun r hr => (hb r hr).2.2.1, fun H2 e2 => ?_⟩
  have hz2 := e2 _ _ hz
  have hzs2 := hzs.same e2
  have hlz : zs.length = rs.length := by rw [hzs.len, List.length_map]
  obtain ⟨x0, x1⟩ := mx_bd hb
  obtain ⟨u1, u2⟩ := up_bounds (n := 1) (m := maxL 1 (rs.map (·.2))) (by omega)
  have y0 : 0 ≤ maxL 0 (rs.map (·.1)) := maxL_d _
  have y1 : maxL 0 (rs.map (·.1)) ≤ 2 ^ 150 := maxL_le (by decide) fun z hz => by obtain ⟨r, hr, rfl⟩ := List.mem_map.mp hz; exact (hb r hr).2.1
  refine ⟨_, rfl, l, rfl, ⟨_, SqL.of hz2⟩, ?_⟩
  refine comp_list (xs := zs) (fun i acc H' => Same H2 H' ∧ acc = (rs.take i).map fun r => V.int r.1) (by omega) ⟨Same.refl _, rfl⟩ (fun i acc H' hi ⟨e, ea⟩ => ⟨SqL.of (e _ _ hz2), by rw [ea, List.length_map, List.length_take]; omega⟩) (fun i x acc H' hx ⟨e, ea⟩ => ?_) (fun acc H' ⟨e, ea⟩ l3 hn3 => ?_)
  · obtain ⟨r, p, er, rfl, hp⟩ := rooms_at hzs2 hx
    refine nameYes ?_
    refine ⟨_, rfl, p, _, _, _, rfl, rfl, SqT.of (e _ _ hp), rfl, e, ?_⟩
    rw [ea, take_snoc er, List.map_append]
    rfl
  · rw [hlz, List.take_length] at ea
    have e3' : Same H (upd H' l3 (.lst acc)) := (e1.trans e2).trans (e.trans (same_new hn3 _))
    have key : ∀ M, M = maxL 0 (rs.map (·.1)) → ∃ v, ([some (V.ref a), some (.ref l), some (.int (maxL 1 (rs.map (·.2)))), some (.int M)] : St)[2]? = some (some v) ∧ ∃ m : Int, [v] ++ [] = [.int m] ∧ 0 < m ∧ m < 2 ^ 200 ∧
        ∃ v, ([some (V.ref a), some (.ref l), some (.int (maxL 1 (rs.map (·.2)))), some (.int M)] : St)[3]? = some (some v) ∧ ∃ i j, V.int (up 1 m) = .int i ∧ v = .int j ∧ ∃ v, ([some (V.ref a), some (.ref l), some (.int (maxL 1 (rs.map (·.2)))), some (.int M)] : St)[2]? = some (some v) ∧
          ∃ n m : Int, [V.int (i + j), v] ++ [] = [.int n, .int m] ∧ 0 ≤ n ∧ n < 2 ^ 200 ∧ 0 < m ∧ m < 2 ^ 200 ∧ ∃ v, ([some (V.ref a), some (.ref l), some (.int (maxL 1 (rs.map (·.2)))), some (.int M)] : St)[2]? = some (some v) ∧ ([V.int (up n m), v] : List V).length ≤ sizeLine ∧
            ∀ p, (upd H' l3 (.lst acc)) p = none → Q (.ref p) (upd (upd H' l3 (.lst acc)) p (.tup [.int (up n m), v])) := fun M eM => by
      subst eM
      exact ⟨_, rfl, _, rfl, by omega, by omega, _, rfl, _, _, rfl, rfl, _, rfl, _, _, rfl, by omega, by omega, by omega, by omega, _, rfl, lists3 2 (by decide), fun p hp => q p _ (e3'.trans (same_new hp _)) upd_same⟩
    refine ⟨l3, rs.map (·.1), 0, rfl, rfl, SqL.of (by rw [upd_same, ea, List.map_map]; rfl), fun en => ?_, fun M hM hle => ?_⟩
    · exact key 0 (by rw [en]; rfl)
    · obtain ⟨r, hr', rfl⟩ := List.mem_map.mp hM
      exact key _ (maxL_is hM (hb r hr').1 hle)
theorem fields_at {H : Hp} {x : V} : ∀ {fs : List (Str × Kd)} {ws : List V} {i : Nat}, IsDs H (dtF fs) ws → ws[i]? = some x → ∃ f p v, fs[i]? = some f ∧ x = .ref p ∧ H p = some (.tup [.str f.1, v]) ∧ IsD H f.2.dt v
  | [], _, _, h, e => by cases (show _ = [] from h); simp at e
  | k :: r, _, 0, ⟨u, vr, h1, h2, h3⟩, e => by
    subst h1
    simp at e
    subst e
    obtain ⟨p, ys, e1, e2, v1, r1, e3, e4, v2, r2, e5, e6, e7⟩ := h2
    cases e4
    cases e7
    subst e5
    subst e3
    exact ⟨k, p, v2, rfl, e1, e2, e6⟩
  | k :: r, _, i + 1, ⟨u, vr, h1, h2, h3⟩, e => by subst h1; obtain ⟨f, p, v, a, b⟩ := fields_at (i := i) h3 (by simpa using e); exact ⟨f, p, v, by simpa using a, b⟩
theorem dtF_len : ∀ (fs : List (Str × Kd)), (dtF fs).length = fs.length
  | [] => rfl
  | k :: r => by show (dtF r).length + 1 = _; rw [dtF_len r]; rfl
theorem dtK_snoc : ∀ (ks : List Kd) (k : Kd), dtK (ks ++ [k]) = dtK ks ++ [k.dt]
  | [], _ => rfl
  | a :: r, k => by show a.dt :: dtK (r ++ [k]) = _; rw [dtK_snoc r]; rfl
theorem okF_map : ∀ {fs : List (Str × Kd)}, okF fs → okK (fs.map (·.2))
  | [], _ => trivial
  | f :: r, h => ⟨h.1, okF_map h.2⟩
theorem deepF_map : ∀ (fs : List (Str × Kd)), deepK (fs.map (·.2)) = deepF fs
  | [] => rfl
  | f :: r => by show max f.2.deep (deepK (r.map (·.2))) = _; rw [deepF_map r]; rfl
theorem rmF_map : ∀ (fs : List (Str × Kd)), rmK (fs.map (·.2)) = rmF fs
  | [] => rfl
  | f :: r => by show f.2.rm :: rmK (r.map (·.2)) = _; rw [rmF_map r]; rfl
theorem ok_ro (F : Fun K "room_of" "room_of" s_room_of f fd) (GRR : FnOk P w K mg base CX0 j fRR dRR ["kind", "n"] (spRR n)) (bRR : Binds K dRR ["kind", "n"] []) (kRR : PySem.W.keepIn K (.ref fRR) = true) (mRR : mg "room_of_row" = some (.ref fRR))
    (GRC : FnOk P w K mg base CX0 j fRC dRC ["kinds"] (spRL rcdRm n)) (bRC : Binds K dRC ["kinds"] []) (kRC : PySem.W.keepIn K (.ref fRC) = true) (mRC : mg "room_of_record" = some (.ref fRC))
    (GRH : FnOk P w K mg base CX0 j fRH dRH ["kinds"] (spRL choRm n)) (bRH : Binds K dRH ["kinds"] []) (kRH : PySem.W.keepIn K (.ref fRH) = true) (mRH : mg "room_of_choice" = some (.ref fRH)) :
    FnOk P w K mg base CX0 (j + 1) f fd ["kind"] (spRO (n + 1)) := by
  refine F.ok sc_room_of (fun vs H Q E h => ?_) (fun cdv A outer s H vs Q E hr h => ?_)
  · obtain ⟨kd, v, rfl, _⟩ := h
    rfl
  obtain ⟨kd, v, rfl, hv, hk, hdp, hn, q⟩ := h
  refine ⟨_, (pss_cons (ps_if (pt_cmpR op_eq (pe_ix ix_tup (pv 0) pe_int (fun _ _ => rfl)) pe_str (nomark _)) (pss_one (ps_ret (pe_tup (pa_cons (pe_ix ix_tup (pv 0) pe_int (fun _ _ => rfl)) (pa_cons (pe_ix ix_tup (pv 0) pe_int (fun _ _ => rfl)) pa_nil))))) pss_nil)
    (pss_cons (ps_if (pt_cmpR op_eq (pe_ix ix_tup (pv 0) pe_int (fun _ _ => rfl)) pe_str (nomark _)) (pss_one (ps_ret (pe_call GRR hr rfl mRR kRR bRR .nil pass0 (pa_cons (pe_ix ix_tup (pv 0) pe_int (fun _ _ => rfl)) (pa_cons (pe_ix ix_tup (pv 0) pe_int (fun _ _ => rfl)) pa_nil))))) pss_nil)
    (pss_cons (ps_if (pt_cmpR op_eq (pe_ix ix_tup (pv 0) pe_int (fun _ _ => rfl)) pe_str (nomark _)) (pss_one (ps_ret (pe_call GRC hr rfl mRC kRC bRC .nil pass0 (pa_cons (pe_comp (dsc := defScope s_room_of) (N := ["kind"]) (tgs := ["field"]) (outs := []) (N' := ["field"]) ⟨rfl, by decide +kernel, by decide +kernel, by decide +kernel, rfl, by decide +kernel, by decide +kernel, by decide +kernel⟩ (pi_list (pe_ix ix_tup (pv 0) pe_int (fun _ _ => rfl))) (fun _ _ _ _ _ => (pg_name (i := 0) (show (["field"] : List Str).Nodup by decide +kernel) rfl (Or.inl rfl) (.inr rfl))) (tgt_name (by decide)) (fun _ _ _ _ _ => pcs_nil) (fun _ _ _ _ _ => (pe_ix (ix_tupK K) (pv 0) pe_int (fun _ _ => rfl)))) pa_nil)))) pss_nil)
    (pss_one (ps_ret (pe_call GRH hr rfl mRH kRH bRH .nil pass0 (pa_cons (pe_ix ix_tup (pv 0) pe_int (fun _ _ => rfl)) pa_nil))))))), ?_⟩
  have n1 : ∀ {x y : Str}, (x == y) = false → ¬ (V.str x = V.str y) := fun h => str_ne h
  cases kd with
  | num wd m =>
    obtain ⟨p, ys, rfl, hp, v1, r1, rfl, rfl, v2, r2, rfl, rfl, v3, r3, rfl, rfl, rfl⟩ := hv
    refine ⟨_, rfl, p, _, _, _, rfl, rfl, SqT.of hp, rfl, rfl, _, rfl, iteDT rfl ?_⟩
    exact ⟨_, rfl, p, _, _, _, rfl, rfl, SqT.of hp, rfl, _, rfl, p, _, _, _, rfl, rfl, SqT.of hp, rfl, lists3 2 (by decide), fun p2 n2 => q p2 _ (same_new n2 _) upd_same⟩
  | row k m =>
    obtain ⟨p, ys, rfl, hp, v1, r1, rfl, rfl, v2, r2, rfl, hv2, v3, r3, rfl, rfl, rfl⟩ := hv
    refine ⟨_, rfl, p, _, _, _, rfl, rfl, SqT.of hp, rfl, rfl, _, rfl, iteND (n1 (by decide +kernel)) ?_⟩
    refine ⟨_, rfl, p, _, _, _, rfl, rfl, SqT.of hp, rfl, rfl, _, rfl, iteDT rfl ?_⟩
    have hdp' : k.deep + 1 ≤ n + 1 := hdp
    exact ⟨_, rfl, p, _, _, _, rfl, rfl, SqT.of hp, rfl, _, rfl, p, _, _, _, rfl, rfl, SqT.of hp, rfl, k, v2, m, rfl, hv2, hk.1, by omega, by omega, hk.2.1, hk.2.2, q⟩
  | rcd fs =>
    obtain ⟨p, ys, rfl, hp, v1, r1, rfl, rfl, v2, r2, rfl, ⟨l, zs, rfl, hl, hzs⟩, rfl⟩ := hv
    refine ⟨_, rfl, p, _, _, _, rfl, rfl, SqT.of hp, rfl, rfl, _, rfl, iteND (n1 (by decide +kernel)) ?_⟩
    refine ⟨_, rfl, p, _, _, _, rfl, rfl, SqT.of hp, rfl, rfl, _, rfl, iteND (n1 (by decide +kernel)) ?_⟩
    refine ⟨_, rfl, p, _, _, _, rfl, rfl, SqT.of hp, rfl, rfl, _, rfl, iteDT rfl ?_⟩
    have hdp' : deepF fs + 1 ≤ n + 1 := hdp
    have hlz : zs.length = fs.length := by rw [hzs.len, dtF_len]
    have hlf := hk.2
    refine ⟨_, rfl, p, _, _, _, rfl, rfl, SqT.of hp, rfl, l, rfl, ⟨_, SqL.of hl⟩, ?_⟩
    refine comp_list (xs := zs) (fun i acc H' => Same H H' ∧ IsDs H' (dtK ((fs.take i).map (·.2))) acc) (by omega) ⟨Same.refl _, rfl⟩ (fun i acc H' hi ⟨e, ea⟩ => ⟨SqL.of (e _ _ hl), by rw [ea.len, dtK_len, List.length_map, List.length_take]; omega⟩) (fun i x acc H' hx ⟨e, ea⟩ => ?_) (fun acc H' ⟨e, ea⟩ l2 hn2 => ?_)
    · obtain ⟨fl, pf, vf, ef, rfl, hpf, hvf⟩ := fields_at hzs hx
      refine nameYes ?_
      refine ⟨_, rfl, pf, _, _, _, rfl, rfl, SqT.of (e _ _ hpf), rfl, e, ?_⟩
      rw [take_snoc ef, List.map_append, List.map_cons, List.map_nil, dtK_snoc]
      exact ea.snoc (hvf.same e)
    · rw [hlz, List.take_length] at ea
      refine ⟨l2, acc, fs.map (·.2), rfl, upd_same, ea.same (same_new hn2 _), okF_map hk.1, by rw [deepF_map]; omega, by rw [List.length_map]; exact hlf, by omega, fun p2 H2 e2 hp2 => ?_⟩
      rw [rmF_map] at hp2
      exact q p2 H2 ((e.trans (same_new hn2 _)).trans e2) hp2
  | cho ks =>
    obtain ⟨p, ys, rfl, hp, v1, r1, rfl, rfl, v2, r2, rfl, ⟨l, zs, rfl, hl, hzs⟩, rfl⟩ := hv
    refine ⟨_, rfl, p, _, _, _, rfl, rfl, SqT.of hp, rfl, rfl, _, rfl, iteND (n1 (by decide +kernel)) ?_⟩
    refine ⟨_, rfl, p, _, _, _, rfl, rfl, SqT.of hp, rfl, rfl, _, rfl, iteND (n1 (by decide +kernel)) ?_⟩
    refine ⟨_, rfl, p, _, _, _, rfl, rfl, SqT.of hp, rfl, rfl, _, rfl, iteND (n1 (by decide +kernel)) ?_⟩
    have hdp' : deepK ks + 1 ≤ n + 1 := hdp
    exact ⟨_, rfl, p, _, _, _, rfl, rfl, SqT.of hp, rfl, l, zs, ks, rfl, hl, hzs, hk.1, by omega, hk.2, by omega, q⟩
theorem ro_none : FnOk P w K mg base CX0 j f fd ["kind"] (spRO 0) := by
  have no : ∀ vs H Q E, ¬ spRO 0 vs H Q E := fun vs H Q E h => by
    obtain ⟨kd, v, _, _, _, hd, _⟩ := h
    have := Kd.deep_pos kd
    omega
  exact ⟨fun vs H Q E h => absurd h (no vs H Q E), fun A outer s H args us vs Q E _ _ _ _ h => absurd h (no vs H Q E)⟩
end


def ldt (r : Int × Int) : Dt := .lst [.int r.1, .int r.2]
mutual
def Kd.Full : Kd → Prop
  | .num _ _ => True
  | .row k _ => k.Full
  | .rcd fs => fs ≠ [] ∧ fullF fs
  | .cho ks => ks ≠ [] ∧ fullK ks
def fullF : List (Str × Kd) → Prop
  | [] => True
  | f :: r => f.2.Full ∧ fullF r
def fullK : List Kd → Prop
  | [] => True
  | k :: r => k.Full ∧ fullK r
end
mutual
def Dt.Sm : Dt → Prop
  | .tup ds => ds.length ≤ 1000 ∧ smD ds
  | .lst ds => ds.length ≤ 1000 ∧ smD ds
  | .int _ => True
  | .str _ => True
  | .bl _ => True
def smD : List Dt → Prop
  | [] => True
  | d :: r => d.Sm ∧ smD r
end
mutual
theorem Kd.dt_sm : ∀ k : Kd, k.Ok → k.dt.Sm
  | .num _ _, _ => ⟨by show 3 ≤ 1000; decide, trivial, trivial, trivial, trivial⟩
  | .row k _, h => ⟨by show 3 ≤ 1000; decide, trivial, Kd.dt_sm k h.1, trivial, trivial⟩
  | .rcd fs, h => ⟨by show 2 ≤ 1000; decide, trivial, ⟨by rw [dtF_len]; have := h.2; omega, dtF_sm fs h.1⟩, trivial⟩
  | .cho ks, h => ⟨by show 2 ≤ 1000; decide, trivial, ⟨by rw [dtK_len]; have := h.2; omega, dtK_sm ks h.1⟩, trivial⟩
theorem dtF_sm : ∀ fs : List (Str × Kd), okF fs → smD (dtF fs)
  | [], _ => trivial
  | f :: r, h => ⟨⟨by show 2 ≤ 1000; decide, trivial, Kd.dt_sm f.2 h.1, trivial⟩, dtF_sm r h.2⟩
theorem dtK_sm : ∀ ks : List Kd, okK ks → smD (dtK ks)
  | [], _ => trivial
  | k :: r, h => ⟨Kd.dt_sm k h.1, dtK_sm r h.2⟩
end
def spLC (n : Nat) : Sp := fun vs H Q _ => ∃ (d : Dt) (v : V), vs = [v] ∧ IsD H d v ∧ d.Sm ∧ d.deep ≤ n ∧ ∀ v' H', Same H H' → IsD H' d v' → Q v' H'
def spLS (n : Nat) : Sp := fun vs H Q _ => ∃ (d : Dt) (v u : V), vs = [v, u] ∧ IsD H d v ∧ IsD H d u ∧ d.Sm ∧ d.deep ≤ n ∧ ∀ H', Same H H' → Q (.bl true) H'
section
variable {K : PySem.W.Frag}
def Dt.isB : Dt → Bool
  | .bl _ => true
  | _ => false
def Dt.isT : Dt → Bool
  | .tup _ => true
  | _ => false
def Dt.isL : Dt → Bool
  | .lst _ => true
  | _ => false
def Dt.isS : Dt → Bool
  | .str _ => true
  | _ => false
end
def codes (x : Str) : List Nat := x.cps.toList
def Low (l : List Nat) : Prop := ∀ c ∈ l, 97 ≤ c ∧ c ≤ 122
def Nm (x : Str) : Prop := 1 ≤ (codes x).length ∧ (codes x).length ≤ 8 ∧ Low (codes x)
abbrev lets : Str := "abcdefghijklmnopqrstuvwxyz"
mutual
def Kd.Fit : Kd → Prop
  | .num w m => 1 ≤ w ∧ w ≤ 8 ∧ (m = 1 ∨ m = 2 ∨ m = 4 ∨ m = 8)
  | .row k n => k.Fit ∧ 1 ≤ n ∧ n ≤ 20
  | .rcd fs => fitF fs ∧ 1 ≤ fs.length ∧ fs.length ≤ 8 ∧ (fs.map (·.1)).Nodup
  | .cho ks => fitK ks ∧ 1 ≤ ks.length ∧ ks.length ≤ 6
def fitF : List (Str × Kd) → Prop
  | [] => True
  | f :: r => (Nm f.1 ∧ f.2.Fit) ∧ fitF r
def fitK : List Kd → Prop
  | [] => True
  | k :: r => k.Fit ∧ fitK r
end
mutual
theorem Kd.Fit.ok : ∀ (k : Kd), k.Fit → k.Ok
  | .num w m, h => by
    obtain ⟨a, b, c⟩ := h
    exact ⟨a, b, by omega, by omega⟩
  | .row k n, h => ⟨Kd.Fit.ok k h.1, by have := h.2.1; omega, by have := h.2.2; omega⟩
  | .rcd fs, h => ⟨fitF_ok fs h.1, by have := h.2.2.1; omega⟩
  | .cho ks, h => ⟨fitK_ok ks h.1, by have := h.2.2; omega⟩
theorem fitF_ok : ∀ (fs : List (Str × Kd)), fitF fs → okF fs
  | [], _ => trivial
  | f :: r, h => ⟨Kd.Fit.ok f.2 h.1.2, fitF_ok r h.2⟩
theorem fitK_ok : ∀ (ks : List Kd), fitK ks → okK ks
  | [], _ => trivial
  | k :: r, h => ⟨Kd.Fit.ok k h.1, fitK_ok r h.2⟩
end
mutual
theorem Kd.Fit.full : ∀ (k : Kd), k.Fit → k.Full
  | .num w m, h => trivial
  | .row k n, h => Kd.Fit.full k h.1
  | .rcd fs, h => ⟨(by intro z; rw [z] at h; exact absurd h.2.1 (by decide)), fitF_full fs h.1⟩
  | .cho ks, h => ⟨(by intro z; rw [z] at h; exact absurd h.2.1 (by decide)), fitK_full ks h.1⟩
theorem fitF_full : ∀ (fs : List (Str × Kd)), fitF fs → fullF fs
  | [], _ => trivial
  | f :: r, h => ⟨Kd.Fit.full f.2 h.1.2, fitF_full r h.2⟩
theorem fitK_full : ∀ (ks : List Kd), fitK ks → fullK ks
  | [], _ => trivial
  | k :: r, h => ⟨Kd.Fit.full k h.1, fitK_full r h.2⟩
end
theorem two_in {v : V} {a b B : Int} (h : v ∈ [V.int a, V.int b]) (a0 : 0 ≤ a) (a1 : a < B) (b0 : 0 ≤ b) (b1 : b < B) : ∃ z, v = .int z ∧ 0 ≤ z ∧ z < B := by
  simp only [List.mem_cons, List.not_mem_nil, or_false] at h
  rcases h with rfl | rfl
  · exact ⟨_, rfl, a0, a1⟩
  · exact ⟨_, rfl, b0, b1⟩
theorem four_in {v : V} (h : v ∈ [V.int 1, V.int 2, V.int 4, V.int 8]) : ∃ z, v = .int z ∧ (z = 1 ∨ z = 2 ∨ z = 4 ∨ z = 8) := by
  simp only [List.mem_cons, List.not_mem_nil, or_false] at h
  rcases h with rfl | rfl | rfl | rfl
  · exact ⟨_, rfl, by omega⟩
  · exact ⟨_, rfl, by omega⟩
  · exact ⟨_, rfl, by omega⟩
  · exact ⟨_, rfl, by omega⟩
structure Fx (K : PySem.W.Frag) (mg : Str → Option Value) (nm : Str) (st : Stmt) (ps : List Str) (f : Addr) (fd : FuncData) : Prop where
  F : Fun K nm nm st f fd
  b : Binds K fd ps []
  k : PySem.W.keepIn K (.ref f) = true
  m : mg nm = some (.ref f)
section
variable {P : Program} {w : World} {K : PySem.W.Frag} {mg : Str → Option Value} {base : Heap} {fRU fRO fRS fGM fSO fRR fRC fPB fRH fCA fP fT fLR fLM fLN fLK fLC fLS f : Addr} {dRU dRO dRS dGM dSO dRR dRC dPB dRH dCA dP dT dLR dLM dLN dLK dLC dLS fd : FuncData}
theorem ro_all (xRU : Fx K mg "rounded_up" s_rounded_up ["number", "m"] fRU dRU) (xRO : Fx K mg "room_of" s_room_of ["kind"] fRO dRO) (xRS : Fx K mg "rooms_of" s_rooms_of ["kinds"] fRS dRS) (xGM : Fx K mg "greatest_multiple" s_greatest_multiple ["rooms"] fGM dGM)
    (xSO : Fx K mg "step_of" s_step_of ["room"] fSO dSO) (xRR : Fx K mg "room_of_row" s_room_of_row ["kind", "n"] fRR dRR) (xRC : Fx K mg "room_of_record" s_room_of_record ["kinds"] fRC dRC) (xPB : Fx K mg "places_behind" s_places_behind ["rooms"] fPB dPB)
    (xRH : Fx K mg "room_of_choice" s_room_of_choice ["kinds"] fRH dRH) (xCA : Fx K mg "chosen_at" s_chosen_at ["multiple"] fCA dCA) (m_max : mg "max" = none) (m_zip : mg "zip" = none) :
    ∀ n, FnOk P w K mg base CX0 (2 + 3 * n) fRO dRO ["kind"] (spRO n)
  | 0 => ro_none
  | n + 1 => by
    have ih := ro_all xRU xRO xRS xGM xSO xRR xRC xPB xRH xCA m_max m_zip n
    have GRU : FnOk P w K mg base CX0 1 fRU dRU ["number", "m"] spRU := ok_ru xRU.F
    have GSO : FnOk P w K mg base CX0 2 fSO dSO ["room"] spSO := ok_so xSO.F GRU xRU.b xRU.k xRU.m
    have GCA : FnOk P w K mg base CX0 2 fCA dCA ["multiple"] spCA := ok_ca xCA.F GRU xRU.b xRU.k xRU.m
    have GGM : FnOk P w K mg base CX0 1 fGM dGM ["rooms"] spGM := ok_gm xGM.F m_max
    have GPB : FnOk P w K mg base CX0 2 fPB dPB ["rooms"] spPB := ok_pb xPB.F GRU xRU.b xRU.k xRU.m
    have GRS := ok_rs xRS.F ih xRO.b xRO.k xRO.m
    have GRR := ok_rr xRR.F (ih.mono (Nat.le_succ _)) xRO.b xRO.k xRO.m GSO xSO.b xSO.k xSO.m (by omega)
    have GRC := ok_rc xRC.F GRS xRS.b xRS.k xRS.m GGM xGM.b xGM.k xGM.m GPB xPB.b xPB.k xPB.m GRU xRU.b xRU.k xRU.m m_max m_zip (by omega)
    have GRH := ok_rh xRH.F GRS xRS.b xRS.k xRS.m GGM xGM.b xGM.k xGM.m GCA xCA.b xCA.k xCA.m GRU xRU.b xRU.k xRU.m m_max (by omega)
    exact (ok_ro xRO.F GRR xRR.b xRR.k xRR.m GRC xRC.b xRC.k xRC.m GRH xRH.b xRH.k xRH.m).mono (by omega)
end

def DeckAt (p : Addr) (H : Hp) : Prop := ∃ ns : List Int, H p = some (.lst (ns.map V.int)) ∧ ∀ n ∈ ns, 0 ≤ n ∧ n < 2 ^ 40
theorem DeckAt.same {p : Addr} {H H' : Hp} (h : DeckAt p H) (e : Same H H') : DeckAt p H' := by
  obtain ⟨ns, a, b⟩ := h
  exact ⟨ns, e _ _ a, b⟩
theorem DeckAt.ne {p l : Addr} {H : Hp} (h : DeckAt p H) (hl : H l = none) : l ≠ p := by
  obtain ⟨ns, a, b⟩ := h
  intro e
  rw [e, a] at hl
  cases hl
theorem same_set {H H' : Hp} {l : Addr} (e : Same H H') (hl : H l = none) (o : HO) : Same H (upd H' l o) := fun b u q => by
  rw [upd_ne (ne_of_none q hl)]
  exact e b u q
def spCE (K : PySem.W.Frag) : Sp := fun vs H Q _ => ∃ (a : Addr) (ns : List Int) (k : Int), vs = [.ref a, .int k] ∧ SqL K H a (ns.map V.int) ∧ 0 ≤ k ∧ ∀ c : Int, Q (.int c) H
def spST : Sp := fun vs H Q _ => ∃ c k : Int, vs = [.int c, .int k] ∧ 0 ≤ k ∧ k < 2 ^ 20 ∧ ∀ r : Int, 0 ≤ r → r < 2 ^ 40 → Q (.int r) H
def spDE : Sp := fun vs H Q _ => ∃ c m : Int, vs = [.int c, .int m] ∧ 0 ≤ m ∧ m ≤ 200 ∧ ∀ (p : Addr) (H' : Hp), H p = none → Same H H' → DeckAt p H' → Q (.ref p) H'
def spNX : Sp := fun vs H Q _ => ∃ p : Addr, vs = [.ref p] ∧ DeckAt p H ∧ ∀ (r : Int) (H' : Hp), 0 ≤ r → r < 2 ^ 40 → SameX p H H' → DeckAt p H' → Q (.int r) H'
def spNA : Sp := fun vs H Q _ => ∃ (p : Addr) (many : Int), vs = [.ref p, .int many] ∧ DeckAt p H ∧ 0 ≤ many ∧ many ≤ 12 ∧
  ∀ (l : Addr) (xs : List Str) (H' : Hp), l ≠ p → H l = none → H' l = some (.lst (xs.map V.str)) → xs.length = many.toNat → xs.Nodup → (∀ x ∈ xs, Nm x) → SameX p H H' → DeckAt p H' → Q (.ref l) H'
section
variable {P : Program} {w : World} {K : PySem.W.Frag} {mg : Str → Option Value} {base : Heap} {f fST fNX : Addr} {fd dST dNX : FuncData}
theorem ok_ce (F : Fun K "_law_cell_at" "_law_cell_at" s_law_cell_at f fd) (m_len : mg "len" = none) : FnOk P w K mg base CX0 1 f fd ["script", "k"] (spCE K) := by
  refine F.ok sc_law_cell_at (fun vs H Q E h => ?_) (fun cdv A outer s H vs Q E hr h => ?_)
  · obtain ⟨a, ns, k, rfl, _⟩ := h
    rfl
  obtain ⟨a, ns, k, rfl, hS, h0, q⟩ := h
  refine ⟨_, (pss_cons (ps_if (pt_cmpR op_lt (pv 1) (pe_callB call_len_seq rfl m_len PySem.boot_len (pa_cons (pv 0) pa_nil)) (nomark _)) (pss_one (ps_ret (pe_ix ix_list (pv 0) (pv 1) (fun _ _ => rfl)))) pss_nil)
    (pss_one (ps_ret pe_int))), ?_⟩
  refine ⟨_, rfl, _, rfl, a, _, rfl, .inl hS, _, _, rfl, rfl, _, rfl, ite2 (fun c => ?_) (fun c => q 0)⟩
  obtain ⟨v, hv, hm⟩ := atI_in (xs := ns.map V.int) h0 (of_decide_eq_true c)
  obtain ⟨z, _, rfl⟩ := List.mem_map.mp hm
  exact ⟨_, rfl, _, rfl, a, _, _, _, rfl, rfl, hS, hv, q z⟩
theorem ok_st (F : Fun K "_law_stir" "_law_stir" s_law_stir f fd) : FnOk P w K mg base CX0 1 f fd ["cell", "k"] spST := by
  refine F.ok sc_law_stir (fun vs H Q E h => ?_) (fun cdv A outer s H vs Q E hr h => ?_)
  · obtain ⟨c, k, rfl, _⟩ := h
    rfl
  obtain ⟨c, k, rfl, h0, h1, q⟩ := h
  refine ⟨_, (pss_cons (ps_set (i := 2) sc_law_stir.nd rfl (Or.inl rfl) (pe_op op_mod (pe_op op_mulB (pe_op op_add (pe_op op_add (pe_op op_mod (pv 0) pe_int) (pe_op op_mulB pe_int (pv 1))) pe_int) pe_int) pe_int))
    (pss_cons (ps_set (i := 2) sc_law_stir.nd rfl (Or.inl rfl) (pe_op op_mod (pe_op op_mulB (pv 2) (pv 2)) pe_int))
    (pss_one (ps_ret (pe_op op_fdivB (pe_op op_mod (pe_op op_mulB (pe_op op_add (pv 2) (pe_op op_mulB pe_int (pv 1))) pe_int) pe_int) pe_int))))), ?_⟩
  have a0 : (0 : Int) ≤ c % 2147483629 := Int.emod_nonneg _ (by decide)
  have a1 : c % 2147483629 < 2147483629 := Int.emod_lt_of_pos _ (by decide)
  refine ⟨_, rfl, _, _, rfl, rfl, (by show (0 : Int) < 2147483629; decide), _, rfl, _, _, rfl, rfl, ⟨by decide, by omega⟩, _, _, rfl, rfl, _, _, rfl, rfl, _, _, rfl, rfl, ⟨by omega, by decide⟩, _, _, rfl, rfl, (by show (0 : Int) < 2147483647; decide), ?_⟩
  have b0 : (0 : Int) ≤ (c % 2147483629 + 9973 * k + 5) * 48271 % 2147483647 := Int.emod_nonneg _ (by decide)
  have b1 : (c % 2147483629 + 9973 * k + 5) * 48271 % 2147483647 < 2147483647 := Int.emod_lt_of_pos _ (by decide)
  generalize (c % 2147483629 + 9973 * k + 5) * 48271 % 2147483647 = B at b0 b1 ⊢
  refine ⟨_, rfl, _, rfl, _, _, rfl, rfl, ⟨by omega, by omega⟩, _, _, rfl, rfl, (by show (0 : Int) < 2147483587; decide), ?_⟩
  have c0 : (0 : Int) ≤ B * B % 2147483587 := Int.emod_nonneg _ (by decide)
  have c1 : B * B % 2147483587 < 2147483587 := Int.emod_lt_of_pos _ (by decide)
  generalize B * B % 2147483587 = C at c0 c1 ⊢
  refine ⟨_, rfl, _, rfl, _, _, rfl, rfl, ⟨by decide, by omega⟩, _, _, rfl, rfl, _, _, rfl, rfl, ⟨by omega, by decide⟩, _, _, rfl, rfl, (by show (0 : Int) < 2147483563; decide), _, _, rfl, rfl, ⟨by decide, by decide⟩, ?_⟩
  have d0 : (0 : Int) ≤ (C + 7919 * k) * 16807 % 2147483563 := Int.emod_nonneg _ (by decide)
  have d1 : (C + 7919 * k) * 16807 % 2147483563 < 2147483563 := Int.emod_lt_of_pos _ (by decide)
  generalize (C + 7919 * k) * 16807 % 2147483563 = D at d0 d1 ⊢
  exact q _ (by omega) (by omega)
theorem ok_de (F : Fun K "_law_deck" "_law_deck" s_law_deck f fd) (GST : FnOk P w K mg base CX0 1 fST dST ["cell", "k"] spST) (bST : Binds K dST ["cell", "k"] []) (kST : PySem.W.keepIn K (.ref fST) = true) (mST : mg "_law_stir" = some (.ref fST)) (m_range : mg "range" = none) :
    FnOk P w K mg base CX0 2 f fd ["cell", "many"] spDE := by
  refine F.ok sc_law_deck (fun vs H Q E h => ?_) (fun cdv A outer s H vs Q E hr h => ?_)
  · obtain ⟨c, m, rfl, _⟩ := h
    rfl
  obtain ⟨c, m, rfl, h0, h1, q⟩ := h
  refine ⟨_, (pss_cons (ps_set (i := 2) sc_law_deck.nd rfl (Or.inl rfl) (pe_lst pa_nil))
    (pss_cons (ps_set (i := 3) sc_law_deck.nd rfl (Or.inl rfl) (pv 0))
    (pss_cons (ps_for PassesOwn.never rfl (pi_range1 rfl m_range (pa_cons (pv 1) pa_nil)) (pg_name (i := 4) sc_law_deck.nd rfl (Or.inl rfl)) (pss_cons (ps_set (i := 5) sc_law_deck.nd rfl (Or.inl rfl) (pe_call GST hr rfl mST kST bST .nil pass0 (pa_cons (pv 0) (pa_cons (pv 4) pa_nil))))
    (pss_cons (ps_mid (ps_if (pt_cmpR op_ge (pv 0) (pe_op op_pow pe_int pe_int) (nomark _)) (pss_one (ps_set (i := 5) sc_law_deck.nd rfl (Or.inl rfl) (pe_op op_mod (pv 3) pe_int))) pss_nil))
    (pss_cons (ps_set (i := 3) sc_law_deck.nd rfl (Or.inl rfl) (pe_op op_fdivB (pv 3) pe_int))
    (pss_one (ps_expr (pe_bm PySem.F.plainAttrs_list PySem.F.slot_list_append PySem.F.type_list_append mt_append (pv 2) (pa_cons (pv 5) pa_nil))))))))
    (pss_one (ps_ret (pe_revL (pv 2))))))), ?_⟩
  have cp : CPow 10 18 := ⟨by decide, by decide, by decide⟩
  refine ⟨lists3 0 (by decide), fun l hl => ⟨_, rfl, _, rfl, m, rfl, by omega, by omega, ?_⟩⟩
  refine for_range (n := m.toNat) (fun i σ H' => ∃ (ns : List Int) (d : Int) (x4 x5 : Option V), σ = [some (.int c), some (.int m), some (.ref l), some (.int d), x4, x5] ∧ ns.length = i ∧ (∀ n ∈ ns, 0 ≤ n ∧ n < 2 ^ 40) ∧ Same H H' ∧ H' l = some (.lst (ns.map V.int))) ?_ ?_ ?_
  · exact ⟨[], _, _, _, rfl, rfl, (fun n hn => nomatch hn), same_new hl _, upd_same⟩
  · rintro i σ H1 hi ⟨ns, d, x4, x5, rfl, hln, hns, e1, hl1⟩
    refine ⟨_, rfl, _, rfl, c, _, rfl, by omega, by omega, fun r r0 r1 => ?_⟩
    refine ⟨fun σ' H' => ∃ r : Int, 0 ≤ r ∧ r < 2 ^ 40 ∧ σ' = [some (.int c), some (.int m), some (.ref l), some (.int d), some (.int (0 + (i : Int))), some (.int r)] ∧ H' = H1, ?_, ?_⟩
    · refine ⟨_, rfl, _, _, rfl, rfl, cp, _, _, rfl, rfl, _, rfl, ite2 (fun c2 => ?_) (fun c2 => ⟨r, r0, r1, rfl, rfl⟩)⟩
      have g0 : (0 : Int) ≤ d % 720720 := Int.emod_nonneg _ (by decide)
      have g1 : d % 720720 < 720720 := Int.emod_lt_of_pos _ (by decide)
      exact ⟨_, rfl, _, _, rfl, rfl, (by show (0 : Int) < 720720; decide), _, g0, by omega, rfl, rfl⟩
    · rintro σ' H' ⟨r', r'0, r'1, rfl, rfl⟩
      refine ⟨_, rfl, _, _, rfl, rfl, ⟨by decide, by decide⟩, _, rfl, .inl ⟨rfl, _, SqL.of hl1⟩, _, rfl, l, _, _, rfl, rfl, hl1, by rw [List.length_map]; exact small1000 (by omega), ?_⟩
      refine ⟨ns ++ [r'], _, _, _, rfl, by rw [List.length_append, hln]; rfl, fun n hn => ?_, same_set e1 hl _, by rw [upd_same, List.map_append]; rfl⟩
      rcases List.mem_append.mp hn with hn | hn
      · exact hns n hn
      · rw [List.mem_singleton.mp hn]; exact ⟨r'0, r'1⟩
  · rintro σ H1 ⟨ns, d, x4, x5, rfl, hln, hns, e1, hl1⟩
    refine ⟨_, rfl, l, _, rfl, SqL.of hl1, fun p hp => ?_⟩
    have hpH : H p = none := by
      cases z : H p with
      | none => rfl
      | some o => rw [e1 _ _ z] at hp; cases hp
    exact q p _ hpH (e1.trans (same_new hp _)) ⟨ns.reverse, by rw [upd_same, List.map_reverse], fun n hn => hns n (List.mem_reverse.mp hn)⟩
theorem ok_nx (F : Fun K "_law_next" "_law_next" s_law_next f fd) : FnOk P w K mg base CX0 1 f fd ["deck"] spNX := by
  refine F.ok sc_law_next (fun vs H Q E h => ?_) (fun cdv A outer s H vs Q E hr h => ?_)
  · obtain ⟨p, rfl, _⟩ := h
    rfl
  obtain ⟨p, rfl, ⟨ns, hp, hns⟩, q⟩ := h
  have hu := hr.units0
  refine ⟨_, (pss_cons (ps_if (pt_cmpR (op_eqNil hu) (pv 0) (pe_lst pa_nil) (nomark _)) (pss_one (ps_ret pe_int)) pss_nil)
    (pss_one (ps_ret (pe_bm0 PySem.F.plainAttrs_list PySem.F.slot_list_pop PySem.F.type_list_pop mt_pop (pv 0))))), ?_⟩
  refine ⟨_, rfl, lists3 0 (by decide), fun l2 hn2 => ?_⟩
  have e1 := same_new hn2 (.lst [])
  have hp1 := e1 _ _ hp
  refine ⟨p, l2, _, rfl, rfl, SqL.of hp1, SqL.of upd_same, _, rfl, ite2 (fun c => ?_) (fun c => ?_)⟩
  · exact q 0 _ (by decide) (by decide) (SameX.of e1) ⟨ns, hp1, hns⟩
  · have hne : ns ≠ [] := fun z => by subst z; exact c rfl
    have hy : (ns.map V.int)[(ns.map V.int).length - 1]? = some (.int (ns.getLast hne)) := by
      rw [List.getElem?_map, List.length_map, ← List.getLast?_eq_getElem?, List.getLast?_eq_some_getLast hne]
      rfl
    refine ⟨_, rfl, .inl ⟨rfl, _, SqL.of hp1⟩, p, _, _, rfl, rfl, hp1, hy, ?_⟩
    obtain ⟨g0, g1⟩ := hns _ (List.getLast_mem hne)
    exact q _ _ g0 g1 ((SameX.of e1).trans (SameX.upd _ _ _)) ⟨ns.dropLast, by rw [upd_same, List.map_dropLast], fun n hn => hns n (List.dropLast_subset _ hn)⟩
end

def hid2 (L B : Addr) (H : Hp) : Hp := hide L (hide B H)
theorem hid2_of {L B b : Addr} {H : Hp} {o : HO} (h1 : b ≠ L) (h2 : b ≠ B) (h : H b = some o) : hid2 L B H b = some o := by
  unfold hid2
  rw [hide_ne h1, hide_ne h2]
  exact h
theorem hid2_some {L B b : Addr} {H : Hp} {o : HO} (h : hid2 L B H b = some o) : b ≠ L ∧ b ≠ B ∧ H b = some o := by
  obtain ⟨a, h⟩ := hide_some h
  obtain ⟨c, h⟩ := hide_some h
  exact ⟨a, c, h⟩
abbrev SameY (L B : Addr) (H H' : Hp) : Prop := Same (hid2 L B H) (hid2 L B H')
theorem IsDs.app {H : Hp} {es : List Dt} {us : List V} (h : IsDs H es us) : ∀ {ds : List Dt} {vs : List V}, IsDs H ds vs → IsDs H (ds ++ es) (vs ++ us)
  | [], _, hs => by cases (show _ = [] from hs); exact h
  | e :: r, _, ⟨u, vr, h1, h2, h3⟩ => by subst h1; exact ⟨u, vr ++ us, rfl, h2, IsDs.app h h3⟩
theorem size5 {n : Nat} (h : n ≤ 100000) : n ≤ sizeLine := by rw [sizeLine_eq]; omega
def wdt (w : Way) : Dt := .tup [.int w.1, .int (w.2.1 : Int), .int w.2.2]
def wL (w : Way) : List Int := [w.1, (w.2.1 : Int), w.2.2]
theorem lex_wL (a b : Way) : HT.lexLt (wL a) (wL b) = wlt a b := by
  obtain ⟨a1, a2, a3⟩ := a
  obtain ⟨b1, b2, b3⟩ := b
  show HT.lexLt [a1, (a2 : Int), a3] [b1, (b2 : Int), b3] = _
  rw [HT.lexLt_cons, HT.lexLt_cons, HT.lexLt_cons, HT.lexLt_nil_nil]
  show _ = if a1 = b1 then (if a2 = b2 then decide (a3 < b3) else decide (a2 < b2)) else decide (a1 < b1)
  by_cases c1 : a1 = b1
  · rw [if_pos c1, if_pos c1]
    by_cases c2 : a2 = b2
    · rw [if_pos (by omega), if_pos c2]
      by_cases c3 : a3 = b3
      · rw [if_pos c3, decide_eq_false (by omega)]
      · rw [if_neg c3]
    · rw [if_neg (by omega), if_neg c2]
      exact decide_eq_decide.mpr ⟨fun _ => by omega, fun _ => by omega⟩
  · rw [if_neg c1, if_neg c1]
theorem ways_at {H : Hp} : ∀ {ws : List Way} {wv : List V} {k : Nat}, IsDs H (ws.map wdt) wv → k < ws.length → ∃ t, wv[k]? = some (.ref t) ∧ H t = some (.tup [.int (ws.getD k w0).1, .int ((ws.getD k w0).2.1 : Int), .int (ws.getD k w0).2.2])
  | [], _, _, _, h => by cases h
  | w :: ws, _, 0, ⟨v, vr, h1, ⟨a, vs, q1, q2, u1, r1, q3, q4, u2, r2, q5, q6, u3, r3, q7, q8, q9⟩, h3⟩, _ => by
    subst h1 q1 q3 q5 q7 q9
    cases q4
    cases q6
    cases q8
    exact ⟨a, rfl, q2⟩
  | w :: ws, _, k + 1, ⟨v, vr, h1, h2, h3⟩, h => by
    subst h1
    obtain ⟨t, a, b⟩ := ways_at (k := k) h3 (by simpa using h)
    exact ⟨t, by simpa using a, by simpa using b⟩
theorem bit_is : ∀ g, g < 32 → ∀ i, i < 5 → (Builtin.bitAnd ((g : Nat) : Int) (1 * 2 ^ ((i : Nat) : Int).toNat) != 0) = g.testBit i := by decide +kernel
theorem shl_is : ∀ i, i < 6 → (1 : Int) * 2 ^ ((i : Nat) : Int).toNat = ((2 ^ i : Nat) : Int) := by decide +kernel
theorem foldl_snoc {α β : Type} {f : β → α → β} {z : β} {l : List α} {i : Nat} {x : α} (h : l[i]? = some x) : (l.take (i + 1)).foldl f z = f ((l.take i).foldl f z) x := by
  rw [take_snoc h, List.foldl_append]
  rfl
def stOf (x : (Int × Int) × Int) : Int × Int := (x.2, x.2 + x.1.1)
def LyOk (ly : List (Int × Int)) : Prop := Rising ly ∧ ly.length ≤ 20 ∧ ∀ s ∈ ly, s.2 ≤ 100000
theorem LyOk.nn {ly : List (Int × Int)} (h : LyOk ly) {s : Int × Int} (hs : s ∈ ly) : 0 ≤ s.1 ∧ 0 ≤ s.2 ∧ s.2 ≤ 100000 := by
  have a := h.1.1 s hs
  have b := h.2.2 s hs
  omega
def Rs2 (rs : List (Int × Int)) : Prop := Good rs ∧ ∀ k, k < rs.length → (rk rs k).1 ≤ 2000
theorem rk_at {rs : List (Int × Int)} {i : Nat} {r : Int × Int} (h : rs[i]? = some r) : rk rs i = r := by
  unfold rk
  rw [List.getD_eq_getElem?_getD, h]
  rfl
theorem way_bd {rs ly : List (Int × Int)} (hr : Rs2 rs) (hl : LyOk ly) {g : Nat} (hg : g < 2 ^ rs.length) : 0 ≤ (way rs ly g).1 ∧ (way rs ly g).1 ≤ 200000 := by
  have h32 : g < 32 := Nat.lt_of_lt_of_le hg (pow_lt32 _ (by have := hr.1.1; omega))
  refine ⟨way_nonneg hr.1 g hg, ?_⟩
  have := way_le (ly := ly) (B := 100000) (R := 2000) hr.1 (by decide) (fun s hs => hl.2.2 s hs) hr.2 (by decide) g hg
  omega
def spFP : Sp := fun vs H Q _ => ∃ (b : Int) (p a : Addr) (r : Int × Int) (ly : List (Int × Int)) (lv : List V), vs = [.int b, .ref p, .ref a] ∧ H p = some (.tup [.int r.1, .int r.2]) ∧ H a = some (.lst lv) ∧ IsDs H (ly.map rdt) lv ∧ 0 ≤ b ∧ b ≤ 1000000 ∧ 1 ≤ r.2 ∧ r.2 ≤ 8 ∧ (∀ s ∈ ly, 0 ≤ s.2 ∧ s.2 ≤ 100000) ∧ Q (.int (fr ly b r)) H
def spSA : Sp := fun vs H Q _ => ∃ (a b : Addr) (ws : List V) (rs : List (Int × Int)) (ps : List Int), vs = [.ref a, .ref b] ∧ H a = some (.lst ws) ∧ IsDs H (rs.map rdt) ws ∧ H b = some (.lst (ps.map V.int)) ∧ ps.length = rs.length ∧ rs.length ≤ 10 ∧
  ∀ l zs H', Same H H' → H' l = some (.lst zs) → IsDs H' (((rs.zip ps).map stOf).map rdt) zs → Q (.ref l) H'
def spGE : Sp := fun vs H Q _ => ∃ (a : Addr) (ws : List V) (sts : List (Int × Int)), vs = [.ref a] ∧ H a = some (.lst ws) ∧ IsDs H (sts.map rdt) ws ∧ sts.length ≤ 1000 ∧ (∀ s ∈ sts, 0 ≤ s.2) ∧ ∀ H', Same H H' → Q (.int (maxL 0 (sts.map (·.2)))) H'
def spCW : Sp := fun vs H Q _ => ∃ (g : Nat) (W c a : Addr) (wv cv lv : List V) (rs ly : List (Int × Int)), vs = [.int (g : Int), .ref W, .ref c, .ref a] ∧ H W = some (.lst wv) ∧ IsDs H ((wy rs ly (g - 1)).map wdt) wv ∧ H c = some (.lst cv) ∧ IsDs H (rs.map rdt) cv ∧ H a = some (.lst lv) ∧ IsDs H (ly.map rdt) lv ∧ Rs2 rs ∧ LyOk ly ∧ 0 < g ∧ g < 2 ^ rs.length ∧
  ∀ t H', Same H H' → H' t = some (.tup ((wL (way rs ly g)).map V.int)) → Q (.ref t) H'
def spBF : Sp := fun vs H Q _ => ∃ (W : Addr) (wv : List V) (rs ly : List (Int × Int)), vs = [.ref W, .int (rs.length : Int)] ∧ H W = some (.lst wv) ∧ IsDs H ((wy rs ly (full rs)).map wdt) wv ∧ Rs2 rs ∧ LyOk ly ∧
  ∀ l H', Same H H' → H l = none → H' l = some (.lst ((dpP rs ly).map V.int)) → Q (.ref l) H'
def spCC : Sp := fun vs H Q _ => ∃ (c a : Addr) (cv lv : List V) (rs ly : List (Int × Int)), vs = [.ref c, .ref a] ∧ H c = some (.lst cv) ∧ IsDs H (rs.map rdt) cv ∧ H a = some (.lst lv) ∧ IsDs H (ly.map rdt) lv ∧ Rs2 rs ∧ LyOk ly ∧
  ∀ l H', Same H H' → H l = none → H' l = some (.lst ((dpP rs ly).map V.int)) → Q (.ref l) H'
def spPC (n : Nat) : Sp := fun vs H Q _ => ∃ (c a : Addr) (cv lv : List V) (ks : List Kd) (ly : List (Int × Int)), vs = [.ref c, .ref a] ∧ H c = some (.lst cv) ∧ IsDs H (dtK ks) cv ∧ okK ks ∧ deepK ks ≤ n ∧ n ≤ 12 ∧ H a = some (.lst lv) ∧ IsDs H (ly.map rdt) lv ∧ Rs2 (rmK ks) ∧ LyOk ly ∧
  ∀ t l H', Same H H' → H l = none → H' t = some (.tup [.ref l, .int (dueE (rmK ks) ly)]) → H' l = some (.lst ((dpP (rmK ks) ly).map V.int)) → Q (.ref t) H'
theorem refs_snoc {ts : List (Addr × List Int)} {t : Addr} {l : List Int} : (ts ++ [(t, l)]).map (fun x => V.ref x.1) = ts.map (fun x => V.ref x.1) ++ [.ref t] := by rw [List.map_append]; rfl
theorem endsZ {rs : List (Int × Int)} {ps : List Int} (h : ps.length = rs.length) : ((rs.zip ps).map stOf).map (·.2) = endsP rs ps := by
  refine List.ext_getElem? fun k => ?_
  unfold endsP
  rw [List.getElem?_map, List.getElem?_map, List.getElem?_map]
  by_cases c : k < rs.length
  · have c2 : k < ps.length := by omega
    rw [(List.getElem?_zip_eq_some (z := (rs[k], ps[k]))).mpr ⟨List.getElem?_eq_getElem c, List.getElem?_eq_getElem c2⟩, List.getElem?_range c]
    show some (ps[k] + rs[k].1) = some (pk ps k + (rk rs k).1)
    rw [rk_at (List.getElem?_eq_getElem c)]
    unfold pk
    rw [List.getD_eq_getElem?_getD, List.getElem?_eq_getElem c2]
    rfl
  · rw [List.getElem?_eq_none (l := rs.zip ps) (by rw [List.length_zip]; omega), List.getElem?_eq_none (l := List.range rs.length) (by rw [List.length_range]; omega)]
    rfl
section
variable {P : Program} {w : World} {K : PySem.W.Frag} {mg : Str → Option Value} {base : Heap} {f fRU fFP fCW fBF fRS fCC fSA fGE : Addr} {fd dRU dFP dCW dBF dRS dCC dSA dGE : FuncData} {n j : Nat}
theorem ok_fp (F : Fun K "free_place" "free_place" s_free_place f fd) (xRU : Fx K mg "rounded_up" s_rounded_up ["number", "m"] fRU dRU) (GRU : FnOk P w K mg base CX0 1 fRU dRU ["number", "m"] spRU) : FnOk P w K mg base CX0 2 f fd ["begin", "room", "lying"] spFP := by
  refine F.ok sc_free_place (fun vs H Q E h => ?_) (fun cdv A outer s H vs Q E hr h => ?_)
  · obtain ⟨b, p, a, r, ly, lv, rfl, _⟩ := h
    rfl
  obtain ⟨b, p, a, r, ly, lv, rfl, hp, ha, hlv, hb0, hb1, hr1, hr2, hly, q⟩ := h
  have bRU := xRU.b
  have kRU := xRU.k
  have mRU := xRU.m
  have hlw : lv.length = ly.length := by rw [hlv.len, List.length_map]
  refine ⟨_, (pss_cons (ps_set (i := 3) sc_free_place.nd rfl (Or.inl rfl) (pe_call GRU hr rfl mRU kRU bRU .nil pass0 (pa_cons (pv 0) (pa_cons (pe_ix ix_tup (pv 1) pe_int (fun _ _ => rfl)) pa_nil))))
    (pss_cons (ps_for PassesOwn.never rfl (pi_list (pv 2)) (pg_name (i := 4) sc_free_place.nd rfl (Or.inl rfl)) (pss_one (ps_if (PW.pt (pw_and (pt_cmpR op_lt (pe_ix ix_tup (pv 4) pe_int (fun _ _ => rfl)) (pe_op op_add (pv 3) (pe_ix ix_tup (pv 1) pe_int (fun _ _ => rfl))) (nomark _)) (pw_and1 (pt_cmpR op_lt (pv 3) (pe_ix ix_tup (pv 4) pe_int (fun _ _ => rfl)) (nomark _))))) (pss_one (ps_set (i := 3) sc_free_place.nd rfl (Or.inl rfl) (pe_call GRU hr rfl mRU kRU bRU .nil pass0 (pa_cons (pe_ix ix_tup (pv 4) pe_int (fun _ _ => rfl)) (pa_cons (pe_ix ix_tup (pv 1) pe_int (fun _ _ => rfl)) pa_nil))))) pss_nil)))
    (pss_one (ps_ret (pv 3))))), ?_⟩
  refine ⟨_, rfl, _, rfl, p, _, _, _, rfl, rfl, SqT.of hp, rfl, _, _, rfl, hb0, by omega, by omega, by omega, ?_⟩
  refine ⟨_, rfl, a, rfl, ⟨_, SqL.of ha⟩, ?_⟩
  refine for_list (xs := lv) (fun i σ H' => ∃ y4, σ = [some (.int b), some (.ref p), some (.ref a), some (.int ((ly.take i).foldl (frStep r) (up b r.2))), y4] ∧ H' = H) ⟨_, rfl, rfl⟩ (fun i σ H' _ ⟨y4, es, e⟩ => by rw [e]; exact SqL.of ha) (fun i x σ H' hx ⟨y4, es, e⟩ => ?_) (fun σ H' ⟨y4, es, e⟩ => ?_)
  · subst es
    subst e
    obtain ⟨st, ps, est, rfl, hps⟩ := rooms_at hlv hx
    have hst := hly st (List.mem_of_getElem? est)
    have hfs := foldl_snoc (f := frStep r) (z := up b r.2) est
    refine ⟨_, rfl, ps, _, _, _, rfl, rfl, SqT.of hps, rfl, _, rfl, _, rfl, p, _, _, _, rfl, rfl, SqT.of hp, rfl, _, _, rfl, rfl, _, _, rfl, rfl, _, rfl, ?_⟩
    by_cases c1 : st.1 < (ly.take i).foldl (frStep r) (up b r.2) + r.1
    · refine iteDT c1 ⟨_, rfl, _, rfl, ps, _, _, _, rfl, rfl, SqT.of hps, rfl, _, _, rfl, rfl, _, rfl, ?_⟩
      by_cases c2 : (ly.take i).foldl (frStep r) (up b r.2) < st.2
      · refine iteDT c2 ⟨_, rfl, ps, _, _, _, rfl, rfl, SqT.of hps, rfl, _, rfl, p, _, _, _, rfl, rfl, SqT.of hp, rfl, _, _, rfl, hst.1, by omega, by omega, by omega, some (.ref ps), ?_, rfl⟩
        rw [hfs, show frStep r ((ly.take i).foldl (frStep r) (up b r.2)) st = up st.2 r.2 from if_pos ⟨c1, c2⟩]
        rfl
      · refine iteND c2 ⟨some (.ref ps), ?_, rfl⟩
        rw [hfs, show frStep r ((ly.take i).foldl (frStep r) (up b r.2)) st = (ly.take i).foldl (frStep r) (up b r.2) from if_neg fun z => c2 z.2]
        rfl
    · refine iteND c1 (iteF ⟨some (.ref ps), ?_, rfl⟩)
      rw [hfs, show frStep r ((ly.take i).foldl (frStep r) (up b r.2)) st = (ly.take i).foldl (frStep r) (up b r.2) from if_neg fun z => c1 z.1]
      rfl
  · subst es
    subst e
    rw [hlw, List.take_length]
    exact ⟨_, rfl, q⟩
theorem ok_sa (F : Fun K "stretches_at" "stretches_at" s_stretches_at f fd) (m_zip : mg "zip" = none) : FnOk P w K mg base CX0 1 f fd ["rooms", "places"] spSA := by
  refine F.ok sc_stretches_at (fun vs H Q E h => ?_) (fun cdv A outer s H vs Q E hr h => ?_)
  · obtain ⟨a, b, ws, rs, ps, rfl, _⟩ := h
    rfl
  obtain ⟨a, b, ws, rs, ps, rfl, ha, hws, hb, hlp, hl, q⟩ := h
  have hlw : ws.length = rs.length := by rw [hws.len, List.length_map]
  have hlm : (ps.map V.int).length = rs.length := by rw [List.length_map, hlp]
  refine ⟨_, (pss_one (ps_ret (pe_comp (dsc := defScope s_stretches_at) (N := ["rooms", "places"]) (tgs := ["room", "place"]) (outs := []) (N' := ["room", "place"]) ⟨rfl, by decide +kernel, by decide +kernel, by decide +kernel, rfl, by decide +kernel, by decide +kernel, by decide +kernel⟩ (pi_zip (t1 := false) (t2 := false) rfl m_zip (pa_cons (pv 0) (pa_cons (pv 1) pa_nil))) (fun _ _ _ _ _ => (pg_tupK K (n := 2) rfl rfl (pgs_cons (pg_name (i := 0) (show (["room", "place"] : List Str).Nodup by decide +kernel) rfl (Or.inl rfl) (.inr rfl)) (pgs_cons (pg_name (i := 1) (show (["room", "place"] : List Str).Nodup by decide +kernel) rfl (Or.inl rfl) (.inr rfl)) pgs_nil)))) (tgt_tup (tgts_name (by decide) (tgts_name (by decide) tgts_nil tmono_nil) (tmono_name tmono_nil))) (fun _ _ _ _ _ => pcs_nil) (fun _ _ _ _ _ => (pe_tup (pa_cons (pv 1) (pa_cons (pe_op op_add (pv 1) (pe_ix (ix_tupK K) (pv 0) pe_int (fun _ _ => rfl))) pa_nil))))))), ?_⟩
  refine ⟨_, rfl, _, rfl, a, b, rfl, ⟨_, SqL.of ha⟩, ⟨_, SqL.of hb⟩, ?_⟩
  refine comp_zip (t1 := false) (t2 := false) (xs := ws) (ys := ps.map V.int) (fun i acc H' => Same H H' ∧ IsDs H' ((((rs.zip ps).take i).map stOf).map rdt) acc) (by omega) (by omega) ⟨Same.refl _, rfl⟩
    (fun i acc H' hi ⟨e, ea⟩ => ⟨SqL.of (e _ _ ha), SqL.of (e _ _ hb), by rw [ea.len, List.length_map, List.length_map, List.length_take]; omega⟩) (fun i x y p acc H' hx hy ⟨e, ea⟩ hpn => ?_) (fun acc H' ⟨e, ea⟩ l hn => ?_)
  · obtain ⟨r, pr, er, rfl, hpr⟩ := rooms_at hws hx
    rw [List.getElem?_map] at hy
    cases ep : ps[i]? with
    | none => rw [ep] at hy; cases hy
    | some pl =>
      rw [ep] at hy
      cases hy
      have en : Same H (upd H' p (.tup [.ref pr, .int pl])) := e.trans (same_new hpn _)
      refine ⟨p, _, rfl, SqT.of upd_same, rfl, _, _, rfl, _, _, rfl, rfl, ?_⟩
      refine yesT ?_
      refine ⟨_, rfl, _, rfl, _, rfl, pr, _, _, _, rfl, rfl, SqT.of (en _ _ hpr), rfl, _, _, rfl, rfl, lists3 2 (by decide), fun t ht => ?_⟩
      have e2 := same_new ht (.tup [.int pl, .int (pl + r.1)])
      refine ⟨en.trans e2, ?_⟩
      have ez : (rs.zip ps)[i]? = some (r, pl) := (List.getElem?_zip_eq_some (z := (r, pl))).mpr ⟨er, ep⟩
      rw [take_snoc ez, List.map_append, List.map_append]
      exact IsDs.snoc (d := rdt (stOf (r, pl))) ⟨t, _, rfl, upd_same, _, _, rfl, rfl, _, _, rfl, rfl, rfl⟩ ((ea.same (same_new hpn _)).same e2)
  · have hz : (rs.zip ps).length = rs.length := by rw [List.length_zip]; omega
    rw [hlw, ← hz, List.take_length] at ea
    exact q l _ _ (e.trans (same_new hn _)) upd_same (ea.same (same_new hn _))
theorem ok_ge (F : Fun K "greatest_end" "greatest_end" s_greatest_end f fd) (m_max : mg "max" = none) : FnOk P w K mg base CX0 1 f fd ["stretches"] spGE := by
  refine F.ok sc_greatest_end (fun vs H Q E h => ?_) (fun cdv A outer s H vs Q E hr h => ?_)
  · obtain ⟨a, ws, rs, rfl, _⟩ := h
    rfl
  obtain ⟨a, ws, rs, rfl, ha, hd, hl, h1, q⟩ := h
  have hlw : ws.length = rs.length := by rw [hd.len, List.length_map]
  refine ⟨_, (pss_one (ps_ret (pe_callBK (call_maxD rfl) rfl m_max bt_max (pa_cons (pe_comp (dsc := defScope s_greatest_end) (N := ["stretches"]) (tgs := ["stretch"]) (outs := []) (N' := ["stretch"]) ⟨rfl, by decide +kernel, by decide +kernel, by decide +kernel, rfl, by decide +kernel, by decide +kernel, by decide +kernel⟩ (pi_list (pv 0)) (fun _ _ _ _ _ => (pg_name (i := 0) (show (["stretch"] : List Str).Nodup by decide +kernel) rfl (Or.inl rfl) (.inr rfl))) (tgt_name (by decide)) (fun _ _ _ _ _ => pcs_nil) (fun _ _ _ _ _ => (pe_ix (ix_tupK K) (pv 0) pe_int (fun _ _ => rfl)))) pa_nil) (pk_cons pe_int pk_nil)))), ?_⟩
  refine ⟨_, rfl, a, rfl, ⟨_, SqL.of ha⟩, ?_⟩
  refine comp_list (xs := ws) (fun i acc H' => Same H H' ∧ acc = (rs.take i).map fun r => V.int r.2) (by omega) ⟨Same.refl _, rfl⟩ (fun i acc H' hi ⟨e, ea⟩ => ⟨SqL.of (e _ _ ha), by rw [ea, List.length_map, List.length_take]; omega⟩) (fun i x acc H' hx ⟨e, ea⟩ => ?_) (fun acc H' ⟨e, ea⟩ l hn => ?_)
  · obtain ⟨r, p, er, rfl, hp⟩ := rooms_at hd hx
    refine nameYes ?_
    refine ⟨_, rfl, p, _, _, _, rfl, rfl, SqT.of (e _ _ hp), rfl, e, ?_⟩
    rw [ea, take_snoc er, List.map_append]
    rfl
  · rw [hlw, List.take_length] at ea
    refine ⟨l, rs.map (·.2), 0, rfl, rfl, SqL.of (by rw [upd_same, ea, List.map_map]; rfl), fun en => ?_, fun M hM hle => ?_⟩
    · rw [en] at q
      exact q _ (e.trans (same_new hn _))
    · obtain ⟨r, hr', rfl⟩ := List.mem_map.mp hM
      rw [maxL_is (d := 0) hM (h1 r hr') hle]
      exact q _ (e.trans (same_new hn _))
set_option maxHeartbeats 8000000 in
theorem ok_cw (F : Fun K "closest_way" "closest_way" s_closest_way f fd) (xFP : Fx K mg "free_place" s_free_place ["begin", "room", "lying"] fFP dFP) (GFP : FnOk P w K mg base CX0 2 fFP dFP ["begin", "room", "lying"] spFP) (m_enumerate : mg "enumerate" = none) (m_min : mg "min" = none) : FnOk P w K mg base CX0 3 f fd ["group", "ways", "rooms", "lying"] spCW := by
  refine F.ok sc_closest_way (fun vs H Q E h => ?_) (fun cdv A outer s H vs Q E hr h => ?_)
  · obtain ⟨g, W, c, a, wv, cv, lv, rs, ly, rfl, _⟩ := h
    rfl
  obtain ⟨g, W, c, a, wv, cv, lv, rs, ly, rfl, hW, hwv, hc, hcv, ha, hlv, hR, hL, hg0, hg1, q⟩ := h
  have bFP := xFP.b
  have kFP := xFP.k
  have mFP := xFP.m
  have hlc : cv.length = rs.length := by rw [hcv.len, List.length_map]
  have h5 := hR.1.1
  have h32 : g < 32 := Nat.lt_of_lt_of_le hg1 (pow_lt32 _ (by omega))
  refine ⟨_, (pss_cons (ps_set (i := 4) sc_closest_way.nd rfl (Or.inl rfl) (pe_lst pa_nil))
    (pss_cons (ps_for PassesOwn.never rfl (pi_enum rfl m_enumerate (pa_cons (pv 2) pa_nil)) (pg_tup rfl (pgs_cons (pg_name (i := 5) sc_closest_way.nd rfl (Or.inl rfl)) (pgs_cons (pg_name (i := 6) sc_closest_way.nd rfl (Or.inl rfl)) pgs_nil))) (pss_one (ps_if (pt_truth (pe_op op_and (pv 0) (pe_op op_shl pe_int (pv 5))) (fun _ => rfl)) (pss_cons (ps_set (i := 7) sc_closest_way.nd rfl (Or.inl rfl) (pe_call GFP hr rfl mFP kFP bFP .nil pass0 (pa_cons (pe_ix ix_tup (pe_ix ix_list (pv 1) (pe_op op_sub (pv 0) (pe_op op_shl pe_int (pv 5))) (fun _ _ => rfl)) pe_int (fun _ _ => rfl)) (pa_cons (pv 6) (pa_cons (pv 3) pa_nil)))))
    (pss_one (ps_expr (pe_bm PySem.F.plainAttrs_list PySem.F.slot_list_append PySem.F.type_list_append mt_append (pv 4) (pa_cons (pe_tup (pa_cons (pe_op op_add (pv 7) (pe_ix ix_tup (pv 6) pe_int (fun _ _ => rfl))) (pa_cons (pv 5) (pa_cons (pv 7) pa_nil)))) pa_nil))))) pss_nil)))
    (pss_one (ps_ret (pe_callB (call_minT rfl (hu_of hr)) rfl m_min bt_min (pa_cons (pv 4) pa_nil)))))), ?_⟩
  refine ⟨lists3 0 (by decide), fun l hl => ?_⟩
  have s0 := same_new hl (.lst [])
  refine ⟨_, rfl, c, rfl, ⟨_, SqL.of (s0 _ _ hc)⟩, ?_⟩
  refine for_enum (xs := cv) (fun i σ H' => ∃ (ts : List (Addr × List Int)) (y5 y6 y7 : Option V), σ = [some (.int (g : Int)), some (.ref W), some (.ref c), some (.ref a), some (.ref l), y5, y6, y7] ∧ Same H H' ∧ H' l = some (.lst (ts.map fun t => V.ref t.1)) ∧ ts.map (·.2) = (cands rs ly (wy rs ly (g - 1)) g i).map wL ∧ ∀ t ∈ ts, H' t.1 = some (.tup (t.2.map V.int)))
    ⟨[], _, _, _, rfl, s0, upd_same, rfl, fun t ht => by cases ht⟩ (fun i σ H' _ ⟨ts, y5, y6, y7, es, e, _⟩ => SqL.of (e _ _ hc)) (fun i x p σ H' hx ⟨ts, y5, y6, y7, es, e, hf, hts, htt⟩ hp => ?_) (fun σ H' ⟨ts, y5, y6, y7, es, e, hf, hts, htt⟩ => ?_)
  · subst es
    obtain ⟨r, pr, er, rfl, hpr⟩ := rooms_at hcv hx
    have hi : i < rs.length := (List.getElem?_eq_some_iff.mp er).1
    have hrk := rk_at er
    obtain ⟨g1, g2, g3⟩ := hR.1.2 i hi
    rw [hrk] at g1 g2 g3
    have hbit := bit_is g h32 i (by omega)
    have hshl := shl_is i (by omega)
    have sp := same_new hp (.tup [.int (i : Int), .ref pr])
    have ep := e.trans sp
    refine ⟨p, _, rfl, SqT.of upd_same, rfl, _, _, rfl, _, _, rfl, rfl, ?_⟩
    refine ⟨_, rfl, _, rfl, _, _, rfl, rfl, ⟨by omega, by omega, by decide⟩, _, _, rfl, rfl, _, rfl, ?_⟩
    rw [hbit]
    have hsn := cands_snoc rs ly (wy rs ly (g - 1)) g i
    have hlen : ts.length ≤ i := by
      have := congrArg List.length hts
      rw [List.length_map, List.length_map] at this
      rw [this]
      unfold cands
      rw [List.length_map]
      exact Nat.le_trans (List.length_filter_le _ _) (by rw [List.length_range]; exact Nat.le_refl _)
    cases hb : g.testBit i with
    | false =>
      refine iteF ⟨ts, _, _, _, rfl, ep, sp _ _ hf, ?_, fun t ht => sp _ _ (htt t ht)⟩
      rw [hsn, hb, if_neg (by decide)]
      exact hts
    | true =>
      obtain ⟨b1, _⟩ := tb_sub g h32 i (by omega) hb
      have p2 : 0 < 2 ^ i := Nat.two_pow_pos i
      have hsub : ((g : Int) - 1 * 2 ^ ((i : Nat) : Int).toNat) = ((g - 2 ^ i : Nat) : Int) := by rw [hshl]; omega
      obtain ⟨tw, etw, htw⟩ := ways_at (k := g - 2 ^ i) hwv (by rw [wy_len]; omega)
      rw [wy_get rs ly (g := g - 2 ^ i) (h := g - 1) (by omega)] at htw
      obtain ⟨wb1, wb2⟩ := way_bd (ly := ly) hR hL (g := g - 2 ^ i) (by omega)
      refine iteT ⟨_, rfl, _, rfl, _, rfl, _, _, rfl, rfl, ⟨by omega, by omega, by decide⟩, _, _, rfl, rfl, W, _, _, _, rfl, rfl, SqL.of (ep _ _ hW), by rw [hsub]; exact atI_nat etw, tw, _, _, _, rfl, rfl, SqT.of (ep _ _ htw), rfl, _, rfl, _, rfl, ?_⟩
      refine ⟨_, pr, a, r, ly, lv, rfl, ep _ _ hpr, ep _ _ ha, hlv.same ep, wb1, by omega, g2, g3, fun s hs => ⟨(hL.nn hs).2.1, (hL.nn hs).2.2⟩, ?_⟩
      refine ⟨_, rfl, .inl ⟨rfl, _, SqL.of (sp _ _ hf)⟩, _, rfl, _, rfl, pr, _, _, _, rfl, rfl, SqT.of (ep _ _ hpr), rfl, _, _, rfl, rfl, _, rfl, _, rfl, lists3 3 (by decide), fun t ht => ?_⟩
      have st := same_new ht (.tup [.int (fr ly (way rs ly (g - 2 ^ i)).1 r + r.1), .int (i : Int), .int (fr ly (way rs ly (g - 2 ^ i)).1 r)])
      have tl : t ≠ l := fun z => by rw [z, sp _ _ hf] at ht; cases ht
      refine ⟨l, _, _, rfl, rfl, st _ _ (sp _ _ hf), small1000 (by rw [List.length_map]; omega), ?_⟩
      have hcand : candOf rs ly (wy rs ly (g - 1)) g i = (fr ly (way rs ly (g - 2 ^ i)).1 r + r.1, i, fr ly (way rs ly (g - 2 ^ i)).1 r) := by
        unfold candOf
        rw [wy_get rs ly (g := g - 2 ^ i) (h := g - 1) (by omega), hrk]
      refine ⟨ts ++ [(t, wL (candOf rs ly (wy rs ly (g - 1)) g i))], _, _, _, rfl, same_set (ep.trans st) hl _, by rw [upd_same, refs_snoc], ?_, fun u hu => ?_⟩
      · rw [hsn, hb, if_pos rfl, List.map_append, List.map_append, hts]
        rfl
      · rcases List.mem_append.mp hu with hu | hu
        · have h1 := st _ _ (sp _ _ (htt u hu))
          have ul : u.1 ≠ l := fun z => by rw [z, st _ _ (sp _ _ hf)] at h1; cases h1
          rw [upd_ne ul]
          exact h1
        · rw [List.mem_singleton.mp hu, upd_ne tl, upd_same, hcand]
          rfl
  · subst es
    rw [hlc] at hts
    obtain ⟨⟨k0, hk0, hb0, _⟩, _⟩ := way_spec (ly := ly) hR.1 hg0 hg1
    have hne : ts ≠ [] := fun z => by
      rw [z] at hts
      have : candOf rs ly (wy rs ly (g - 1)) g k0 ∈ cands rs ly (wy rs ly (g - 1)) g rs.length := List.mem_map.mpr ⟨k0, List.mem_filter.mpr ⟨List.mem_range.mpr hk0, hb0⟩, rfl⟩
      have h2 : wL (candOf rs ly (wy rs ly (g - 1)) g k0) ∈ (cands rs ly (wy rs ly (g - 1)) g rs.length).map wL := List.mem_map.mpr ⟨_, this, rfl⟩
      rw [← hts] at h2
      cases h2
    refine ⟨_, rfl, l, ts, rfl, SqL.of hf, fun t ht => SqT.of (htt t ht), hne, fun t ht hmin => ?_⟩
    refine q t.1 _ e ?_
    rw [htt t ht]
    have h1 : t.2 ∈ (cands rs ly (wy rs ly (g - 1)) g rs.length).map wL := by rw [← hts]; exact List.mem_map.mpr ⟨t, ht, rfl⟩
    obtain ⟨M, hM, eM⟩ := List.mem_map.mp h1
    have h2 : M = lmin (cands rs ly (wy rs ly (g - 1)) g rs.length) := lmin_is hM fun b hb => by
      have h3 : wL b ∈ ts.map (·.2) := by rw [hts]; exact List.mem_map.mpr ⟨b, hb, rfl⟩
      obtain ⟨u, hu, eu⟩ := List.mem_map.mp h3
      have h4 := hmin u hu
      rw [eu, ← eM, lex_wL] at h4
      exact h4
    have h3 : way rs ly g = M := by
      obtain ⟨g', rfl⟩ : ∃ g', g = g' + 1 := ⟨g - 1, by omega⟩
      rw [way_succ, h2]
      rfl
    rw [← eM, h3]
theorem ixN_nat {n k : Nat} (h : k < n) : ixN n (k : Int) = some k := by
  unfold ixN
  rw [if_pos (by omega), if_pos (by omega), Int.toNat_natCast]
theorem map_set_int (ps : List Int) (k : Nat) (v : Int) : (ps.map V.int).set k (.int v) = (ps.set k v).map V.int := by rw [List.map_set]
theorem rep_zero (n : Nat) : (List.replicate n [V.int 0]).flatten = (List.replicate n (0 : Int)).map V.int := by
  induction n with
  | zero => rfl
  | succ n ih => rw [List.replicate_succ, List.flatten_cons, ih, List.replicate_succ]; rfl
set_option maxHeartbeats 8000000 in
theorem ok_bf (F : Fun K "places_back_from" "places_back_from" s_places_back_from f fd) (m_len : mg "len" = none) : FnOk P w K mg base CX0 1 f fd ["ways", "how_many"] spBF := by
  refine F.ok sc_places_back_from (fun vs H Q E h => ?_) (fun cdv A outer s H vs Q E hr h => ?_)
  · obtain ⟨W, wv, rs, ly, rfl, _⟩ := h
    rfl
  obtain ⟨W, wv, rs, ly, rfl, hW, hwv, hR, hL, q⟩ := h
  have h5 := hR.1.1
  have hlw : wv.length = full rs + 1 := by rw [hwv.len, List.length_map, wy_len]
  have hf32 : full rs < 32 := Nat.lt_of_lt_of_le (full_lt rs) (pow_lt32 _ (by omega))
  refine ⟨_, (pss_cons (ps_set (i := 2) sc_places_back_from.nd rfl (Or.inl rfl) (pe_op op_rep (pe_lst (pa_cons pe_int pa_nil)) (pv 1)))
    (pss_cons (ps_set (i := 3) sc_places_back_from.nd rfl (Or.inl rfl) (pe_op op_sub (pe_callB call_len_seq rfl m_len PySem.boot_len (pa_cons (pv 0) pa_nil)) pe_int))
    (pss_cons (ps_while PassesOwn.never (pt_cmpR op_gt (pv 3) pe_int (nomark _)) (pss_cons (ps_set (i := 4) sc_places_back_from.nd rfl (Or.inl rfl) (pe_ix ix_list (pv 0) (pv 3) (fun _ _ => rfl)))
    (pss_cons (ps_asg (pe_ix ix_tup (pv 4) pe_int (fun _ _ => rfl)) (pg_sub (pv 2) (pe_ix ix_tup (pv 4) pe_int (fun _ _ => rfl)) set_list))
    (pss_one (ps_set (i := 3) sc_places_back_from.nd rfl (Or.inl rfl) (pe_op op_sub (pv 3) (pe_op op_shl pe_int (pe_ix ix_tup (pv 4) pe_int (fun _ _ => rfl)))))))))
    (pss_one (ps_ret (pv 2)))))), ?_⟩
  refine ⟨lists3 1 (by decide), fun l0 hl0 => ⟨_, rfl, l0, _, _, rfl, rfl, upd_same, by omega, by omega, lists3 _ (by rw [Int.toNat_natCast]; show 1 * rs.length ≤ 1000; omega), fun L hL0 => ?_⟩⟩
  have s0 := same_new hl0 (.lst [.int 0])
  rw [Int.toNat_natCast, rep_zero] at *
  have s1 := same_new hL0 (.lst ((List.replicate rs.length (0 : Int)).map V.int))
  have hLH : H L = none := by
    cases z : H L with
    | none => rfl
    | some o => rw [s0 _ _ z] at hL0; cases hL0
  refine ⟨_, rfl, W, _, rfl, .inl (SqL.of (s1 _ _ (s0 _ _ hW))), _, _, rfl, rfl, ?_⟩
  have hgl : ((wv.length : Int) - 1) = ((full rs : Nat) : Int) := by rw [hlw]; omega
  refine ⟨fun m σ H' => ∃ (g : Nat) (ps : List Int) (y4 : Option V), σ = [some (.ref W), some (.int (rs.length : Int)), some (.ref L), some (.int (g : Int)), y4] ∧ g < 2 ^ rs.length ∧ Same H H' ∧ H' L = some (.lst (ps.map V.int)) ∧ ps.length = rs.length ∧ back rs ly g g ps = dpP rs ly ∧ m = g,
    ⟨_, full rs, _, none, by rw [← hgl]; rfl, full_lt rs, s0.trans s1, upd_same, List.length_replicate, rfl, rfl⟩, ?_⟩
  rintro m σ H' ⟨g, ps, y4, rfl, hg, e, hLs, hlp, hbk, hmg⟩
  obtain rfl : g = m := hmg.symm
  refine ⟨_, rfl, _, _, rfl, rfl, _, rfl, ?_⟩
  by_cases c : g = 0
  · subst c
    refine iteND (by decide) ⟨_, rfl, q L _ e hLH ?_⟩
    rw [hLs, ← hbk]
    rfl
  · obtain ⟨⟨k, hk, hb, ew⟩, _⟩ := way_spec (ly := ly) hR.1 (by omega) hg
    have h32 : g < 32 := Nat.lt_of_lt_of_le hg (pow_lt32 _ (by omega))
    obtain ⟨b1, _⟩ := tb_sub g h32 k (by omega) hb
    have p2 : 0 < 2 ^ k := Nat.two_pow_pos k
    have hshl := shl_is k (by omega)
    have hgf : g ≤ full rs := by unfold full; omega
    obtain ⟨tw, etw, htw⟩ := ways_at (k := g) hwv (by rw [wy_len]; omega)
    rw [wy_get rs ly (g := g) (h := full rs) hgf] at htw
    have e1 : (way rs ly g).2.1 = k := by rw [ew]
    refine iteDT (by omega) ⟨fun σ' H2 => ∃ m', m' < g ∧ ∃ (g2 : Nat) (ps : List Int) (y4 : Option V), σ' = [some (.ref W), some (.int (rs.length : Int)), some (.ref L), some (.int (g2 : Int)), y4] ∧ g2 < 2 ^ rs.length ∧ Same H H2 ∧ H2 L = some (.lst (ps.map V.int)) ∧ ps.length = rs.length ∧ back rs ly g2 g2 ps = dpP rs ly ∧ m' = g2, fun σ' H2 h => h, ?_⟩
    refine ⟨_, rfl, _, rfl, W, _, _, _, rfl, rfl, SqL.of (e _ _ hW), atI_nat etw, ?_⟩
    have htw2 := e _ _ htw
    rw [e1] at htw2
    refine ⟨_, rfl, tw, _, _, _, rfl, rfl, SqT.of htw2, rfl, _, rfl, _, rfl, tw, _, _, _, rfl, rfl, SqT.of htw2, rfl, L, _, _, k, rfl, rfl, hLs, ixN_nat (by rw [List.length_map]; omega), ?_⟩
    have twL : tw ≠ L := fun z => by rw [z, hLs] at htw2; cases htw2
    have htw3 : (upd H' L (.lst ((ps.map V.int).set k (.int (way rs ly g).2.2)))) tw = some (.tup [.int (way rs ly g).1, .int (k : Int), .int (way rs ly g).2.2]) := by rw [upd_ne twL]; exact htw2
    refine ⟨_, rfl, _, rfl, tw, _, _, _, rfl, rfl, SqT.of htw3, rfl, _, _, rfl, rfl, ⟨by omega, by omega, by decide⟩, _, _, rfl, rfl, ?_⟩
    have hsub : ((g : Int) - 1 * 2 ^ ((k : Nat) : Int).toNat) = ((g - 2 ^ k : Nat) : Int) := by rw [hshl]; omega
    refine ⟨g - 2 ^ k, by omega, g - 2 ^ k, ps.set k (way rs ly g).2.2, some (.ref tw), by rw [← hsub]; rfl, by omega, same_set e hLH _, by rw [upd_same, map_set_int], by rw [List.length_set]; exact hlp, ?_, rfl⟩
    rw [← hbk]
    obtain ⟨g', rfl⟩ : ∃ g', g = g' + 1 := ⟨g - 1, by omega⟩
    show _ = if g' + 1 = 0 then ps else _
    rw [if_neg c, e1]
    exact back_fuel hR.1 hL.1 _ _ _ _ (by omega) (by omega) (by omega)
set_option maxHeartbeats 8000000 in
theorem ok_cc (F : Fun K "closest_places" "closest_places" s_closest_places f fd) (xCW : Fx K mg "closest_way" s_closest_way ["group", "ways", "rooms", "lying"] fCW dCW) (xBF : Fx K mg "places_back_from" s_places_back_from ["ways", "how_many"] fBF dBF) (GCW : FnOk P w K mg base CX0 3 fCW dCW ["group", "ways", "rooms", "lying"] spCW) (GBF : FnOk P w K mg base CX0 1 fBF dBF ["ways", "how_many"] spBF)
    (m_len : mg "len" = none) (m_range : mg "range" = none) : FnOk P w K mg base CX0 4 f fd ["rooms", "lying"] spCC := by
  refine F.ok sc_closest_places (fun vs H Q E h => ?_) (fun cdv A outer s H vs Q E hr h => ?_)
  · obtain ⟨c, a, cv, lv, rs, ly, rfl, _⟩ := h
    rfl
  obtain ⟨c, a, cv, lv, rs, ly, rfl, hc, hcv, ha, hlv, hR, hL, q⟩ := h
  have bCW := xCW.b
  have kCW := xCW.k
  have mCW := xCW.m
  have bBF := xBF.b
  have kBF := xBF.k
  have mBF := xBF.m
  have h1 : 1 ≤ 3 := by decide
  have h5 := hR.1.1
  have hlc : cv.length = rs.length := by rw [hcv.len, List.length_map]
  refine ⟨_, (pss_cons (ps_set (i := 2) sc_closest_places.nd rfl (Or.inl rfl) (pe_lst (pa_cons (pe_tup (pa_cons pe_int (pa_cons pe_int (pa_cons pe_int pa_nil)))) pa_nil)))
    (pss_cons (ps_for PassesOwn.never rfl (pi_range2 rfl m_range (pa_cons pe_int (pa_cons (pe_op op_shl pe_int (pe_callB call_len_seq rfl m_len PySem.boot_len (pa_cons (pv 0) pa_nil))) pa_nil))) (pg_name (i := 3) sc_closest_places.nd rfl (Or.inl rfl)) (pss_one (ps_expr (pe_bm PySem.F.plainAttrs_list PySem.F.slot_list_append PySem.F.type_list_append mt_append (pv 2) (pa_cons (pe_call GCW hr rfl mCW kCW bCW .nil pass0 (pa_cons (pv 3) (pa_cons (pv 2) (pa_cons (pv 0) (pa_cons (pv 1) pa_nil))))) pa_nil)))))
    (pss_one (ps_ret (pe_call GBF (hr.mono h1) rfl mBF kBF bBF .nil pass0 (pa_cons (pv 2) (pa_cons (pe_callB call_len_seq rfl m_len PySem.boot_len (pa_cons (pv 0) pa_nil)) pa_nil))))))), ?_⟩
  refine ⟨lists3 3 (by decide), fun t0 ht0 => ⟨lists3 1 (by decide), fun W hW0 => ?_⟩⟩
  have s0 := same_new ht0 (.tup [.int 0, .int 0, .int 0])
  have s1 := same_new hW0 (.lst [.ref t0])
  have t0W : t0 ≠ W := fun z => by rw [← z, upd_same] at hW0; cases hW0
  have hWH : H W = none := by
    cases z : H W with
    | none => rfl
    | some o => rw [s0 _ _ z] at hW0; cases hW0
  have hpw : ((1 : Int) * 2 ^ ((cv.length : Nat) : Int).toNat) = ((2 ^ rs.length : Nat) : Int) := by rw [hlc]; exact shl_is _ (by omega)
  have hp32 := pow_lt32 rs.length (by omega)
  have hpos := Nat.two_pow_pos rs.length
  refine ⟨_, rfl, c, _, rfl, .inl (SqL.of (s1 _ _ (s0 _ _ hc))), _, _, rfl, rfl, ⟨by omega, by omega, by decide⟩, ?_⟩
  refine ⟨1, ((2 ^ rs.length : Nat) : Int), by rw [← hpw], ⟨by decide, by decide, by omega, by omega⟩, ?_⟩
  have hcnt : (((2 ^ rs.length : Nat) : Int) - 1).toNat = full rs := by unfold full; omega
  rw [hcnt]
  refine for_range (fun i σ H' => ∃ (wv : List V) (y3 : Option V), σ = [some (.ref c), some (.ref a), some (.ref W), y3] ∧ Same H H' ∧ H' W = some (.lst wv) ∧ IsDs (hide W H') ((wy rs ly i).map wdt) wv) ⟨_, _, rfl, s0.trans s1, upd_same, ⟨_, _, rfl, ⟨t0, _, rfl, by rw [hide_ne t0W]; exact s1 _ _ upd_same, _, _, rfl, rfl, _, _, rfl, rfl, _, _, rfl, rfl, rfl⟩, rfl⟩⟩ (fun i σ H' hi ⟨wv, y3, es, e, hWs, hws⟩ => ?_) (fun σ H' ⟨wv, y3, es, e, hWs, hws⟩ => ?_)
  · subst es
    have hg : ((1 : Int) + (i : Int)) = ((i + 1 : Nat) : Int) := by omega
    have hlt : i + 1 < 2 ^ rs.length := by have : i < full rs := hi; unfold full at this; omega
    refine ⟨_, rfl, .inl ⟨rfl, _, SqL.of hWs⟩, _, rfl, _, rfl, _, rfl, _, rfl, ?_⟩
    refine ⟨i + 1, W, c, a, wv, cv, lv, rs, ly, by rw [hg]; rfl, hWs, hws.same (hide_sub _ _), e _ _ hc, hcv.same e, e _ _ ha, hlv.same e, hR, hL, by omega, hlt, fun t H2 e2 ht => ?_⟩
    have hW2 := e2 _ _ hWs
    have tW : t ≠ W := fun z => by rw [z, hW2] at ht; cases ht
    have hlw : wv.length = i + 1 := by rw [hws.len, List.length_map, wy_len]
    refine ⟨W, _, _, rfl, rfl, hW2, small1000 (by omega), ?_⟩
    refine ⟨wv ++ [.ref t], _, rfl, same_set (e.trans e2) hWH _, upd_same, ?_⟩
    have hwy : wy rs ly (i + 1) = wy rs ly i ++ [way rs ly (i + 1)] := by rw [way_succ]; rfl
    rw [hwy, List.map_append]
    refine IsDs.snoc (d := wdt (way rs ly (i + 1))) ⟨t, _, rfl, by rw [hide_ne tW, upd_ne tW]; exact ht, _, _, rfl, rfl, _, _, rfl, rfl, _, _, rfl, rfl, rfl⟩ ((hws.same (SameX.of e2)).same (SameX.upd _ _ _))
  · subst es
    refine ⟨_, rfl, _, rfl, c, _, rfl, .inl (SqL.of (e _ _ hc)), ?_⟩
    refine ⟨W, wv, rs, ly, by rw [hlc]; rfl, hWs, hws.same (hide_sub _ _), hR, hL, fun l H2 e2 hl0 hl => ?_⟩
    refine q l H2 (e.trans e2) ?_ hl
    cases z : H l with
    | none => rfl
    | some o => rw [e _ _ z] at hl0; cases hl0
theorem ok_pc (F : Fun K "placed_closely" "placed_closely" s_placed_closely f fd) (xRS : Fx K mg "rooms_of" s_rooms_of ["kinds"] fRS dRS) (xCC : Fx K mg "closest_places" s_closest_places ["rooms", "lying"] fCC dCC) (xSA : Fx K mg "stretches_at" s_stretches_at ["rooms", "places"] fSA dSA) (xGE : Fx K mg "greatest_end" s_greatest_end ["stretches"] fGE dGE)
    (GRS : FnOk P w K mg base CX0 j fRS dRS ["kinds"] (spRS n)) (GCC : FnOk P w K mg base CX0 4 fCC dCC ["rooms", "lying"] spCC) (GSA : FnOk P w K mg base CX0 1 fSA dSA ["rooms", "places"] spSA) (GGE : FnOk P w K mg base CX0 1 fGE dGE ["stretches"] spGE) (hj : j ≤ 20) : FnOk P w K mg base CX0 21 f fd ["kinds", "lying"] (spPC n) := by
  refine F.ok sc_placed_closely (fun vs H Q E h => ?_) (fun cdv A outer s H vs Q E hr h => ?_)
  · obtain ⟨c, a, cv, lv, ks, ly, rfl, _⟩ := h
    rfl
  obtain ⟨c, a, cv, lv, ks, ly, rfl, hc, hcv, hok, hdp, hn, ha, hlv, hR, hL, q⟩ := h
  have bRS := xRS.b
  have kRS := xRS.k
  have mRS := xRS.m
  have bCC := xCC.b
  have kCC := xCC.k
  have mCC := xCC.m
  have bSA := xSA.b
  have kSA := xSA.k
  have mSA := xSA.m
  have bGE := xGE.b
  have kGE := xGE.k
  have mGE := xGE.m
  have h1 : 1 ≤ 20 := by decide
  have h4 : 4 ≤ 20 := by decide
  have h5 := hR.1.1
  have hlk : (rmK ks).length = ks.length := lenK ks
  refine ⟨_, (pss_cons (ps_set (i := 2) sc_placed_closely.nd rfl (Or.inl rfl) (pe_call GRS (hr.mono hj) rfl mRS kRS bRS .nil pass0 (pa_cons (pv 0) pa_nil)))
    (pss_cons (ps_set (i := 3) sc_placed_closely.nd rfl (Or.inl rfl) (pe_call GCC (hr.mono h4) rfl mCC kCC bCC .nil pass0 (pa_cons (pv 2) (pa_cons (pv 1) pa_nil))))
    (pss_one (ps_ret (pe_tup (pa_cons (pv 3) (pa_cons (pe_call GGE (hr.mono h1) rfl mGE kGE bGE .nil pass0 (pa_cons (pe_op op_cat (pe_call GSA (hr.mono h1) rfl mSA kSA bSA .nil pass0 (pa_cons (pv 2) (pa_cons (pv 3) pa_nil))) (pv 1)) pa_nil)) pa_nil))))))), ?_⟩
  refine ⟨_, rfl, c, cv, ks, rfl, hc, hcv, hok, hdp, by omega, hn, fun lr zr H1 e1 hlr hzr => ?_⟩
  have ha1 := e1 _ _ ha
  have hlv1 := hlv.same e1
  refine ⟨_, rfl, _, rfl, lr, a, zr, lv, rmK ks, ly, rfl, hlr, hzr, ha1, hlv1, hR, hL, fun l H2 e2 hl0 hl => ?_⟩
  have hB := dpP_ok hR.1 hL.1
  refine ⟨_, rfl, _, rfl, _, rfl, lr, l, zr, rmK ks, dpP (rmK ks) ly, rfl, e2 _ _ hlr, hzr.same e2, hl, hB.len, by omega, fun ls zs H3 e3 hls hzs => ?_⟩
  have ha3 := e3 _ _ (e2 _ _ ha1)
  have hll := hL.2.1
  have hlz : zs.length ≤ 5 := by rw [hzs.len, List.length_map, List.length_map, List.length_zip]; omega
  have hlv3 : lv.length ≤ 20 := by rw [hlv.len, List.length_map]; exact hll
  refine ⟨_, rfl, ls, a, _, _, rfl, rfl, hls, ha3, size5 (by omega), fun lc hlc => ?_⟩
  have s4 := same_new hlc (.lst (zs ++ lv))
  have hends := ends_is hR.1 hL.1
  refine ⟨lc, _, ((rmK ks).zip (dpP (rmK ks) ly)).map stOf ++ ly, rfl, upd_same, ?_, ?_, ?_, fun H5 e5 => ?_⟩
  · rw [List.map_append]
    exact IsDs.app ((hlv1.same (e2.trans e3)).same s4) (hzs.same s4)
  · rw [List.length_append, List.length_map, List.length_zip]
    omega
  · intro st hst
    rcases List.mem_append.mp hst with hst | hst
    · obtain ⟨x, hx, ex⟩ := List.mem_map.mp hst
      obtain ⟨i, hi⟩ := List.getElem?_of_mem hx
      obtain ⟨i1, i2⟩ := List.getElem?_zip_eq_some.mp hi
      have hil : i < (rmK ks).length := (List.getElem?_eq_some_iff.mp i1).1
      obtain ⟨o1, _⟩ := hB.ok i hil (Nat.zero_testBit _)
      have o2 := (hR.1.2 i hil).1
      rw [rk_at i1] at o2
      unfold pk at o1
      rw [List.getD_eq_getElem?_getD, i2] at o1
      have o1' : 0 ≤ x.2 := o1
      rw [← ex]
      show 0 ≤ x.2 + x.1.1
      omega
    · exact (hL.nn hst).2.1
  · rw [List.map_append, endsZ hB.len, hends]
    refine ⟨lists3 2 (by decide), fun t ht => ?_⟩
    have s6 := same_new ht (.tup [.ref l, .int (dueE (rmK ks) ly)])
    refine q t l _ ((((e1.trans e2).trans e3).trans s4).trans (e5.trans s6)) ?_ upd_same (s6 _ _ (e5 _ _ (s4 _ _ (e3 _ _ hl))))
    cases z : H l with
    | none => rfl
    | some o => rw [e1 _ _ z] at hl0; cases hl0
end

theorem comp_zipN {t1 t2 : Bool} {K : PySem.W.Frag} {a b : Addr} {xs ys : List V} {n : Nat} {g : TG} {tc : TT} {te : TE} {σ' : St} {H1 : Hp} {Fin : List V → Hp → Prop} (Pv : Nat → List V → Hp → Prop) (he : n = min xs.length ys.length) (hz : n ≤ 1000000) (h0 : Pv 0 [] H1)
    (hl : ∀ i acc H, i ≤ n → Pv i acc H → Sq t1 K H a xs ∧ Sq t2 K H b ys ∧ acc.length ≤ i)
    (hs : ∀ i x y p acc H, xs[i]? = some x → ys[i]? = some y → Pv i acc H → H p = none → g (.ref p) σ' (upd H p (.tup [x, y])) fun σ2 H2 => tc σ2 H2 fun b H3 => if b = true then te σ2 H3 fun y H4 => Pv (i + 1) (acc ++ [y]) H4 else Pv (i + 1) acc H3) (hd : ∀ acc H, Pv n acc H → Fin acc H) :
    ∃ W : Nat → Nat → List V → Hp → Prop, (∃ m, W 0 m [] H1) ∧ ∀ i m acc H, W i m acc H → ((Itz t1 t2 K a b).stop i H ∧ acc.length ≤ sizeLine ∧ Fin acc H) ∨
      ((Itz t1 t2 K a b).go i H ∧ acc.length < sizeLine ∧ ∃ N : List V → Hp → Prop, (∀ acc' H', N acc' H' → ∃ m', m' < m ∧ W (i + 1) m' acc' H') ∧ ∀ x H', (Itz t1 t2 K a b).yld i H x H' → g x σ' H' fun σ2 H2 => tc σ2 H2 fun b H3 => if b = true then te σ2 H3 fun y H4 => N (acc ++ [y]) H4 else N acc H3) := by
  have zl : (1000000 : Nat) < sizeLine := by rw [sizeLine_eq]; decide
  refine ⟨fun i m acc H => m = n - i ∧ i ≤ n ∧ Pv i acc H, ⟨n, by simp, Nat.zero_le _, h0⟩, ?_⟩
  rintro i m acc H ⟨rfl, hi, p⟩
  obtain ⟨q1, q2, al⟩ := hl i acc H hi p
  by_cases hlt : i < n
  · refine .inr ⟨⟨xs, ys, xs[i]'(by omega), ys[i]'(by omega), q1, q2, List.getElem?_eq_getElem (by omega), List.getElem?_eq_getElem (by omega)⟩, by omega, Pv (i + 1), fun acc' H' p' => ⟨n - (i + 1), by omega, rfl, hlt, p'⟩, fun x H' y => ?_⟩
    obtain ⟨pp, x', y', rfl, hp, rfl, e⟩ := y
    obtain ⟨e1, e2⟩ := e xs ys q1 q2
    exact hs i x' y' pp acc H e1 e2 p hp
  · have e : i = n := by omega
    subst e
    exact .inl ⟨⟨xs, ys, q1, q2, by omega⟩, by omega, hd acc H p⟩
theorem cut_n (xs : List V) (i : Nat) : cutV xs none (some (i : Int)) = xs.take i := by
  unfold cutV
  rw [HT.sIx_nat]
  show (xs.drop 0).take (min i xs.length - 0) = _
  rw [List.drop_zero, Nat.sub_zero]
  by_cases h : i ≤ xs.length
  · rw [Nat.min_eq_left h]
  · rw [Nat.min_eq_right (by omega), List.take_length, List.take_of_length_le (by omega)]
theorem cut_from (xs : List V) (i : Nat) : cutV xs (some (i : Int)) none = xs.drop i := by
  unfold cutV
  rw [HT.sIx_nat]
  show (xs.drop (min i xs.length)).take (xs.length - min i xs.length) = _
  by_cases h : i ≤ xs.length
  · rw [Nat.min_eq_left h, List.take_of_length_le (by rw [List.length_drop]; exact Nat.le_refl _)]
  · rw [Nat.min_eq_right (by omega), List.drop_length, List.drop_of_length_le (by omega), List.take_nil]
theorem op_isnotB {X : Cx} : OpR X (compareOp .IsNot) (fun x y H Q => ∃ b c, x = .bl b ∧ y = .bl c ∧ Q (.bl (!decide (b = c))) H) := by
  intro pins s σ H x y v u Q I rx ry h
  obtain ⟨b, c, rfl, rfl, q⟩ := h
  cases rx
  cases ry
  have e : compareOp .IsNot (.bool b) (.bool c) = pure (.bool (!decide (b = c))) := by cases b <;> cases c <;> rfl
  rw [e]
  exact wpAny_pure ⟨.bl _, H, I, rfl, q⟩
def prL (l : List Int) : Int × Int := (l.getD 0 0, l.getD 1 0)
theorem pairs_ts {H : Hp} : ∀ {sts : List (Int × Int)} {ws : List V}, IsDs H (sts.map rdt) ws → ∃ ts : List TI2, ws = ts.map (fun t => V.ref t.1) ∧ ts.map (·.2) = sts.map (fun s => [s.1, s.2]) ∧ ∀ t ∈ ts, H t.1 = some (.tup (t.2.map V.int))
  | [], _, h => ⟨[], h, rfl, fun t ht => (nomatch ht)⟩
  | s :: sts, _, ⟨v, vr, h1, ⟨a, vs, q1, q2, u1, r1, q3, q4, u2, r2, q5, q6, q7⟩, h3⟩ => by
    subst h1 q1 q3 q5 q7
    cases q4
    cases q6
    obtain ⟨ts, a1, a2, a3⟩ := pairs_ts h3
    refine ⟨(a, [s.1, s.2]) :: ts, by rw [a1]; rfl, by rw [List.map_cons, List.map_cons, a2], fun t ht => ?_⟩
    rcases List.mem_cons.mp ht with e | e
    · rw [e]; exact q2
    · exact a3 t e
theorem ts_pairs {H : Hp} : ∀ {us : List TI2}, (∀ t ∈ us, H t.1 = some (.tup (t.2.map V.int)) ∧ ∃ s : Int × Int, t.2 = [s.1, s.2]) → IsDs H ((us.map fun t => prL t.2).map rdt) (us.map fun t => V.ref t.1)
  | [], _ => rfl
  | (a, l) :: us, h => by
    obtain ⟨h1, s, e⟩ := h (a, l) List.mem_cons_self
    have e' : l = [s.1, s.2] := e
    subst e'
    exact ⟨_, _, rfl, ⟨a, _, rfl, h1, _, _, rfl, rfl, _, _, rfl, rfl, rfl⟩, ts_pairs fun t ht => h t (List.mem_cons_of_mem _ ht)⟩
theorem lex_fst {s t : Int × Int} (h : HT.lexLt [t.1, t.2] [s.1, s.2] = false) : s.1 ≤ t.1 := by
  rw [HT.lexLt_cons] at h
  by_cases c : t.1 = s.1
  · omega
  · rw [if_neg c] at h
    have := of_decide_eq_false h
    omega
theorem sorted_st {H : Hp} {sts : List (Int × Int)} {ts us : List TI2} (h1 : ts.map (·.2) = sts.map (fun s => [s.1, s.2])) (h2 : ∀ t ∈ ts, H t.1 = some (.tup (t.2.map V.int))) (hp : us.Perm ts) (hw : us.Pairwise fun x y => HT.lexLt y.2 x.2 = false) :
    (us.map fun t => prL t.2).Perm sts ∧ (us.map fun t => prL t.2).Pairwise (fun s t => s.1 ≤ t.1) ∧ IsDs H ((us.map fun t => prL t.2).map rdt) (us.map fun t => V.ref t.1) := by
  have hsh : ∀ t ∈ us, ∃ s : Int × Int, t.2 = [s.1, s.2] := fun t ht => by
    have h3 : t.2 ∈ ts.map (·.2) := List.mem_map.mpr ⟨t, hp.mem_iff.mp ht, rfl⟩
    rw [h1] at h3
    obtain ⟨s, _, e⟩ := List.mem_map.mp h3
    exact ⟨s, e.symm⟩
  refine ⟨?_, ?_, ts_pairs fun t ht => ⟨h2 t (hp.mem_iff.mp ht), hsh t ht⟩⟩
  · have a : (us.map fun t => prL t.2).Perm (ts.map fun t => prL t.2) := hp.map _
    have b : (ts.map fun t => prL t.2) = sts := by
      have : (ts.map fun t => prL t.2) = (ts.map (·.2)).map prL := by rw [List.map_map]; rfl
      rw [this, h1, List.map_map]
      have e : (prL ∘ fun s : Int × Int => [s.1, s.2]) = id := by funext s; rfl
      rw [e, List.map_id]
    rw [b] at a
    exact a
  · rw [List.pairwise_map]
    refine List.Pairwise.imp_of_mem ?_ hw
    intro x y hx hy h
    obtain ⟨s, es⟩ := hsh x hx
    obtain ⟨t, et⟩ := hsh y hy
    rw [es, et] at h ⊢
    exact lex_fst h
theorem stz_at {rs : List (Int × Int)} {ps : List Int} (hl : ps.length = rs.length) : (rs.zip ps).map stOf = (List.range rs.length).map fun k => (pk ps k, pk ps k + (rk rs k).1) := by
  refine List.ext_getElem? fun k => ?_
  rw [List.getElem?_map, List.getElem?_map]
  by_cases c : k < rs.length
  · have c2 : k < ps.length := by omega
    rw [(List.getElem?_zip_eq_some (z := (rs[k], ps[k]))).mpr ⟨List.getElem?_eq_getElem c, List.getElem?_eq_getElem c2⟩, List.getElem?_range c]
    show some (ps[k], ps[k] + rs[k].1) = some (pk ps k, pk ps k + (rk rs k).1)
    rw [rk_at (List.getElem?_eq_getElem c)]
    unfold pk
    rw [List.getD_eq_getElem?_getD, List.getElem?_eq_getElem c2]
    rfl
  · rw [List.getElem?_eq_none (l := rs.zip ps) (by rw [List.length_zip]; omega), List.getElem?_eq_none (l := List.range rs.length) (by rw [List.length_range]; omega)]
    rfl
theorem plc_dj {rs ly : List (Int × Int)} {ps : List Int} (hg : Good rs) (hR : Rising ly) (h : Plc rs ly ps) (hl : ps.length = rs.length) : ((rs.zip ps).map stOf ++ ly).Pairwise Dj ∧ ∀ s ∈ (rs.zip ps).map stOf ++ ly, 0 ≤ s.1 ∧ s.1 < s.2 := by
  rw [stz_at hl]
  refine ⟨List.pairwise_append.mpr ⟨?_, ?_, fun s hs t ht => ?_⟩, fun s hs => ?_⟩
  · rw [List.pairwise_map]
    refine List.Pairwise.imp_of_mem ?_ (List.nodup_range (n := rs.length))
    intro i j hi hj hne
    exact h.dis i j (List.mem_range.mp hi) (List.mem_range.mp hj) hne
  · exact hR.2.imp fun a => .inl a
  · obtain ⟨k, hk, rfl⟩ := List.mem_map.mp hs
    exact (h.ok k (List.mem_range.mp hk)).2.2 t ht
  · rcases List.mem_append.mp hs with hs | hs
    · obtain ⟨k, hk, rfl⟩ := List.mem_map.mp hs
      have hk := List.mem_range.mp hk
      have a := (h.ok k hk).1
      have b := (hg.2 k hk).1
      show 0 ≤ pk ps k ∧ pk ps k < pk ps k + (rk rs k).1
      omega
    · exact hR.1 s hs
theorem dj_perm {a b : List (Int × Int)} (h : a.Perm b) (hd : b.Pairwise Dj) : a.Pairwise Dj := (h.pairwise_iff (fun {x y} hxy => Dj.symm hxy)).mpr hd
theorem Bk.plc {rs ly : List (Int × Int)} {ps : List Int} (h : Bk rs ly 0 ps) : Plc rs ly ps :=
  ⟨fun k hk => by obtain ⟨a, b, c, _, _⟩ := h.ok k hk (Nat.zero_testBit _); exact ⟨a, b, c⟩, fun k j hk hj hne => h.dis k j hk hj hne (Nat.zero_testBit _) (Nat.zero_testBit _)⟩
def spIW : Sp := fun vs H Q _ => ∃ i : Int, vs = [.int i] ∧ Q (.bl true) H
def spIL : Sp := fun vs H Q _ => ∃ i m : Int, vs = [.int i, .int m] ∧ 0 < m ∧ 0 ≤ i ∧ i % m = 0 ∧ Q (.bl true) H
def spSN : Sp := fun vs H Q _ => ∃ (a : Addr) (ws : List V) (us : List (Int × Int)), vs = [.ref a] ∧ H a = some (.lst ws) ∧ IsDs H (us.map rdt) ws ∧ Rising us ∧ us.length ≤ 1000 ∧ ∀ H', Same H H' → Q (.bl true) H'
def spIS (n : Nat) : Sp := fun vs H Q _ => ∃ (c a b : Addr) (cv lv : List V) (ks : List Kd) (ly : List (Int × Int)) (ps : List Int), vs = [.ref c, .ref a, .ref b] ∧ H c = some (.lst cv) ∧ IsDs H (dtK ks) cv ∧ okK ks ∧ deepK ks ≤ n ∧ n ≤ 12 ∧ H a = some (.lst lv) ∧ IsDs H (ly.map rdt) lv ∧ H b = some (.lst (ps.map V.int)) ∧ Rs2 (rmK ks) ∧ LyOk ly ∧ ps.length = (rmK ks).length ∧ Plc (rmK ks) ly ps ∧ ∀ H', Same H H' → Q (.bl true) H'
def spEN (n : Nat) : Sp := fun vs H Q _ => ∃ (c a : Addr) (cv lv : List V) (ks : List Kd) (ly : List (Int × Int)), vs = [.ref c, .ref a] ∧ H c = some (.lst cv) ∧ IsDs H (dtK ks) cv ∧ okK ks ∧ deepK ks ≤ n ∧ n ≤ 12 ∧ H a = some (.lst lv) ∧ IsDs H (ly.map rdt) lv ∧ Rs2 (rmK ks) ∧ LyOk ly ∧ ∀ H', Same H H' → Q (.int (dueE (rmK ks) ly)) H'
def spLA (n : Nat) : Sp := fun vs H Q _ => ∃ (c b a : Addr) (cv lv : List V) (ks : List Kd) (ly : List (Int × Int)) (ps : List Int), vs = [.ref c, .ref b, .ref a] ∧ H c = some (.lst cv) ∧ IsDs H (dtK ks) cv ∧ okK ks ∧ deepK ks ≤ n ∧ n ≤ 12 ∧ H a = some (.lst lv) ∧ IsDs H (ly.map rdt) lv ∧ H b = some (.lst (ps.map V.int)) ∧ ks.length ≤ 5 ∧ ly.length ≤ 20 ∧ ps.length = ks.length ∧
  ∀ (us : List (Int × Int)) l zs H', Same H H' → H l = none → H' l = some (.lst zs) → IsDs H' (us.map rdt) zs → us.Perm (ly ++ ((rmK ks).zip ps).map stOf) → us.Pairwise (fun s t => s.1 ≤ t.1) → Q (.ref l) H'
theorem all_rep (n : Nat) : (List.replicate n true).all id = true := by
  induction n with
  | zero => rfl
  | succ n ih => rw [List.replicate_succ, List.all_cons, ih]; rfl
section
variable {P : Program} {w : World} {K : PySem.W.Frag} {mg : Str → Option Value} {base : Heap} {f fIW fIL fSN fRS fSA fPC fIS fRO : Addr} {fd dIW dIL dSN dRS dSA dPC dIS dRO : FuncData} {n j : Nat}
theorem ok_iw (F : Fun K "is_whole" "is_whole" s_is_whole f fd) (m_isinstance : mg "isinstance" = none) (m_int : mg "int" = none) (m_bool : mg "bool" = none) : FnOk P w K mg base CX0 1 f fd ["thing"] spIW := by
  refine F.ok sc_is_whole (fun vs H Q E h => ?_) (fun cdv A outer s H vs Q E hr h => ?_)
  · obtain ⟨i, rfl, _⟩ := h
    rfl
  obtain ⟨i, rfl, q⟩ := h
  refine ⟨_, (pss_one (ps_ret (pe_and (pe_callB call_isinst rfl m_isinstance bt_isinstance (pa_cons (pv 0) (pa_cons (pe_bltn (v := .ty "int") rfl m_int bt_int rfl) pa_nil))) (pe_one (pe_not (pe_callB call_isinst rfl m_isinstance bt_isinstance (pa_cons (pv 0) (pa_cons (pe_bltn (v := .ty "bool") rfl m_bool bt_bool rfl) pa_nil)))))))), ?_⟩
  exact ⟨_, rfl, _, _, _, _, rfl, .int _, kit_self _, _, rfl, iteT ⟨_, rfl, _, _, _, _, rfl, .int _, kit_int_bool, _, rfl, q⟩⟩
theorem ok_il (F : Fun K "is_place" "is_place" s_is_place f fd) (xIW : Fx K mg "is_whole" s_is_whole ["thing"] fIW dIW) (GIW : FnOk P w K mg base CX0 1 fIW dIW ["thing"] spIW) : FnOk P w K mg base CX0 2 f fd ["thing", "multiple"] spIL := by
  refine F.ok sc_is_place (fun vs H Q E h => ?_) (fun cdv A outer s H vs Q E hr h => ?_)
  · obtain ⟨i, m, rfl, _⟩ := h
    rfl
  obtain ⟨i, m, rfl, hm, h0, h1, q⟩ := h
  have bIW := xIW.b
  have kIW := xIW.k
  have mIW := xIW.m
  refine ⟨_, (pss_one (ps_ret (pe_and (pe_call GIW hr rfl mIW kIW bIW .nil pass0 (pa_cons (pv 0) pa_nil)) (pe_and (pe_cmpR op_ge (pv 0) pe_int (nomark _)) (pe_one (pe_cmpR op_eq (pe_op op_mod (pv 0) (pv 1)) pe_int (nomark _))))))), ?_⟩
  refine ⟨_, rfl, i, rfl, _, rfl, iteT ⟨_, rfl, _, _, rfl, rfl, _, rfl, iteDT h0 ⟨_, rfl, _, rfl, _, _, rfl, rfl, hm, rfl, ?_⟩⟩⟩
  have e : decide (V.int (i % m) = V.int 0) = true := decide_eq_true (congrArg V.int h1)
  show Q (.bl (decide (V.int (i % m) = V.int 0))) H
  rw [e]
  exact q
theorem ok_sn (F : Fun K "share_no_byte" "share_no_byte" s_share_no_byte f fd) (m_all : mg "all" = none) (m_zip : mg "zip" = none) : FnOk P w K mg base CX0 1 f fd ["rising"] spSN := by
  refine F.ok sc_share_no_byte (fun vs H Q E h => ?_) (fun cdv A outer s H vs Q E hr h => ?_)
  · obtain ⟨a, ws, us, rfl, _⟩ := h
    rfl
  obtain ⟨a, ws, us, rfl, ha, hws, hRi, hl, q⟩ := h
  have hlw : ws.length = us.length := by rw [hws.len, List.length_map]
  refine ⟨_, (pss_one (ps_ret (pe_callB (call_allL rfl) rfl m_all bt_all (pa_cons (pe_comp (dsc := defScope s_share_no_byte) (N := ["rising"]) (tgs := ["ahead", "behind"]) (outs := []) (N' := ["ahead", "behind"]) ⟨rfl, by decide +kernel, by decide +kernel, by decide +kernel, rfl, by decide +kernel, by decide +kernel, by decide +kernel⟩ (pi_zip (t1 := false) (t2 := false) rfl m_zip (pa_cons (pv 0) (pa_cons (pe_slice sl_list (pv 0) (po_some pe_int) po_none) pa_nil))) (fun _ _ _ _ _ => (pg_tupK K (n := 2) rfl rfl (pgs_cons (pg_name (i := 0) (show (["ahead", "behind"] : List Str).Nodup by decide +kernel) rfl (Or.inl rfl) (.inr rfl)) (pgs_cons (pg_name (i := 1) (show (["ahead", "behind"] : List Str).Nodup by decide +kernel) rfl (Or.inl rfl) (.inr rfl)) pgs_nil)))) (tgt_tup (tgts_name (by decide) (tgts_name (by decide) tgts_nil tmono_nil) (tmono_name tmono_nil))) (fun _ _ _ _ _ => pcs_nil) (fun _ _ _ _ _ => (pe_cmpR op_le (pe_ix (ix_tupK K) (pv 0) pe_int (fun _ _ => rfl)) (pe_ix (ix_tupK K) (pv 1) pe_int (fun _ _ => rfl)) (nomark _)))) pa_nil)))), ?_⟩
  refine ⟨_, rfl, _, rfl, _, rfl, a, _, rfl, SqL.of ha, fun p hp => ?_⟩
  have hcf : cutV ws (some 1) none = ws.drop 1 := cut_from ws 1
  rw [hcf]
  have s1 := same_new hp (.lst (ws.drop 1))
  refine ⟨a, p, rfl, ⟨_, SqL.of (s1 _ _ ha)⟩, ⟨_, SqL.of upd_same⟩, ?_⟩
  have hld : (ws.drop 1).length = ws.length - 1 := List.length_drop
  refine comp_zipN (t1 := false) (t2 := false) (xs := ws) (ys := ws.drop 1) (n := ws.length - 1) (fun i acc H' => Same (upd H p (.lst (ws.drop 1))) H' ∧ acc = (List.replicate i true).map V.bl) (by omega) (by omega) ⟨Same.refl _, rfl⟩
    (fun i acc H' hi ⟨e, ea⟩ => ⟨SqL.of (e _ _ (s1 _ _ ha)), SqL.of (e _ _ upd_same), by rw [ea, List.length_map, List.length_replicate]; exact Nat.le_refl _⟩) (fun i x y pp acc H' hx hy ⟨e, ea⟩ hpn => ?_) (fun acc H2 ⟨e2, ea⟩ lc hlc => ?_)
  · rw [List.getElem?_drop] at hy
    obtain ⟨st, p1, e1, rfl, hp1⟩ := rooms_at hws hx
    obtain ⟨tt, p2, e2, rfl, hp2⟩ := rooms_at hws hy
    have en := e.trans (same_new hpn (.tup [.ref p1, .ref p2]))
    have h1 := en _ _ (s1 _ _ hp1)
    have h2 := en _ _ (s1 _ _ hp2)
    refine ⟨pp, _, rfl, SqT.of upd_same, rfl, _, _, rfl, _, _, rfl, rfl, ?_⟩
    refine yesT ?_
    refine ⟨_, rfl, p1, _, _, _, rfl, rfl, SqT.of h1, rfl, _, rfl, p2, _, _, _, rfl, rfl, SqT.of h2, rfl, _, _, rfl, rfl, en, ?_⟩
    have hle : st.2 ≤ tt.1 := by
      have hp := hRi.2
      rw [List.pairwise_iff_getElem] at hp
      obtain ⟨b1, c1⟩ := List.getElem?_eq_some_iff.mp e1
      obtain ⟨b2, c2⟩ := List.getElem?_eq_some_iff.mp e2
      have := hp i (1 + i) b1 b2 (by omega)
      rw [c1, c2] at this
      exact this
    rw [ea]
    show _ ++ [V.bl (decide (st.2 ≤ tt.1))] = _
    rw [decide_eq_true hle, List.replicate_succ', List.map_append]
    rfl
  refine ⟨lc, List.replicate (ws.length - 1) true, rfl, SqL.of (by rw [upd_same, ea]), ?_⟩
  rw [all_rep]
  exact q _ ((s1.trans e2).trans (same_new hlc _))
set_option maxHeartbeats 8000000 in
theorem ok_is (F : Fun K "is_placing" "is_placing" s_is_placing f fd) (xRS : Fx K mg "rooms_of" s_rooms_of ["kinds"] fRS dRS) (xIL : Fx K mg "is_place" s_is_place ["thing", "multiple"] fIL dIL) (xSN : Fx K mg "share_no_byte" s_share_no_byte ["rising"] fSN dSN) (xSA : Fx K mg "stretches_at" s_stretches_at ["rooms", "places"] fSA dSA)
    (GRS : FnOk P w K mg base CX0 j fRS dRS ["kinds"] (spRS n)) (GIL : FnOk P w K mg base CX0 2 fIL dIL ["thing", "multiple"] spIL) (GSN : FnOk P w K mg base CX0 1 fSN dSN ["rising"] spSN) (GSA : FnOk P w K mg base CX0 1 fSA dSA ["rooms", "places"] spSA) (hj : j ≤ 20)
    (m_isinstance : mg "isinstance" = none) (m_list : mg "list" = none) (m_len : mg "len" = none) (m_all : mg "all" = none) (m_zip : mg "zip" = none) (m_sorted : mg "sorted" = none) : FnOk P w K mg base CX0 21 f fd ["kinds", "lying", "places"] (spIS n) := by
  refine F.ok sc_is_placing (fun vs H Q E h => ?_) (fun cdv A outer s H vs Q E hr h => ?_)
  · obtain ⟨c, a, b, cv, lv, ks, ly, ps, rfl, _⟩ := h
    rfl
  obtain ⟨c, a, b, cv, lv, ks, ly, ps, rfl, hc, hcv, hok, hdp, hn, ha, hlv, hb, hR, hL, hlp, hP, q⟩ := h
  have bRS := xRS.b
  have kRS := xRS.k
  have mRS := xRS.m
  have bIL := xIL.b
  have kIL := xIL.k
  have mIL := xIL.m
  have bSN := xSN.b
  have kSN := xSN.k
  have mSN := xSN.m
  have bSA := xSA.b
  have kSA := xSA.k
  have mSA := xSA.m
  have h1 : 1 ≤ 20 := by decide
  have h2 : 2 ≤ 20 := by decide
  have h5 := hR.1.1
  have hlk : (rmK ks).length = ks.length := lenK ks
  have hlc : cv.length = ks.length := by rw [hcv.len, dtK_len]
  have hlm : (ps.map V.int).length = ks.length := by rw [List.length_map]; omega
  have hll : lv.length = ly.length := by rw [hlv.len, List.length_map]
  have hl20 := hL.2.1
  refine ⟨_, (pss_cons (ps_if (PW.pt (pw_or (pt_not (pt_val (pe_callB call_isinst rfl m_isinstance bt_isinstance (pa_cons (pv 2) (pa_cons (pe_bltn (v := .ty "list") rfl m_list bt_list rfl) pa_nil))))) (pw_or1 (pt_cmpR op_ne (pe_callB call_len_seq rfl m_len PySem.boot_len (pa_cons (pv 2) pa_nil)) (pe_callB call_len_seq rfl m_len PySem.boot_len (pa_cons (pv 0) pa_nil)) (nomark _))))) (pss_one (ps_ret pe_bl)) pss_nil)
    (pss_cons (ps_set (i := 3) sc_is_placing.nd rfl (Or.inl rfl) (pe_call GRS (hr.mono hj) rfl mRS kRS bRS .nil pass0 (pa_cons (pv 0) pa_nil)))
    (pss_cons (ps_if (pt_not (pt_val (pe_callB (call_allL rfl) rfl m_all bt_all (pa_cons (pe_comp (dsc := defScope s_is_placing) (N := ["kinds", "lying", "places", "rooms"]) (tgs := ["place", "room"]) (outs := []) (N' := ["place", "room"]) ⟨rfl, by decide +kernel, by decide +kernel, by decide +kernel, rfl, by decide +kernel, by decide +kernel, by decide +kernel⟩ (pi_zip (t1 := false) (t2 := false) rfl m_zip (pa_cons (pv 2) (pa_cons (pv 3) pa_nil))) (fun _ _ _ _ _ => (pg_tupK K (n := 2) rfl rfl (pgs_cons (pg_name (i := 0) (show (["place", "room"] : List Str).Nodup by decide +kernel) rfl (Or.inl rfl) (.inr rfl)) (pgs_cons (pg_name (i := 1) (show (["place", "room"] : List Str).Nodup by decide +kernel) rfl (Or.inl rfl) (.inr rfl)) pgs_nil)))) (tgt_tup (tgts_name (by decide) (tgts_name (by decide) tgts_nil tmono_nil) (tmono_name tmono_nil))) (fun _ _ _ _ _ => pcs_nil) (fun _ _ _ _ _ => (pe_call GIL (hr.mono h2) rfl mIL kIL bIL .nil pass0 (pa_cons (pv 0) (pa_cons (pe_ix (ix_tupK K) (pv 1) pe_int (fun _ _ => rfl)) pa_nil))))) pa_nil)))) (pss_one (ps_ret pe_bl)) pss_nil)
    (pss_one (ps_ret (pe_call GSN (hr.mono h1) rfl mSN kSN bSN .nil pass0 (pa_cons (pe_callB call_sortedT rfl m_sorted bt_sorted (pa_cons (pe_op op_cat (pe_call GSA (hr.mono h1) rfl mSA kSA bSA .nil pass0 (pa_cons (pv 3) (pa_cons (pv 2) pa_nil))) (pv 1)) pa_nil)) pa_nil))))))), ?_⟩
  refine ⟨_, rfl, _, _, _, _, rfl, .lst hb, kit_self _, _, rfl, iteF ⟨_, rfl, b, _, rfl, .inl (SqL.of hb), _, rfl, c, _, rfl, .inl (SqL.of hc), rfl, _, rfl, iteNS (by rw [hlm, hlc]) ?_⟩⟩
  refine ⟨_, rfl, c, cv, ks, rfl, hc, hcv, hok, hdp, by omega, hn, fun lr zr H1 e1 hlr hzr => ?_⟩
  have hb1 := e1 _ _ hb
  have hlz : zr.length = (rmK ks).length := by rw [hzr.len, List.length_map]
  refine ⟨_, rfl, _, rfl, b, lr, rfl, ⟨_, SqL.of hb1⟩, ⟨_, SqL.of hlr⟩, ?_⟩
  refine comp_zip (t1 := false) (t2 := false) (xs := ps.map V.int) (ys := zr) (fun i acc H' => Same H1 H' ∧ acc = (List.replicate i true).map V.bl) (by omega) (by omega) ⟨Same.refl _, rfl⟩
    (fun i acc H' hi ⟨e, ea⟩ => ⟨SqL.of (e _ _ hb1), SqL.of (e _ _ hlr), by rw [ea, List.length_map, List.length_replicate]; exact Nat.le_refl _⟩) (fun i x y p acc H' hx hy ⟨e, ea⟩ hpn => ?_) (fun acc H2 ⟨e2, ea⟩ lc hlc0 => ?_)
  · obtain ⟨r, p2, er, rfl, hp2⟩ := rooms_at hzr hy
    have hi : i < (rmK ks).length := (List.getElem?_eq_some_iff.mp er).1
    rw [List.getElem?_map] at hx
    cases ep : ps[i]? with
    | none => rw [ep] at hx; cases hx
    | some pl =>
      rw [ep] at hx
      cases hx
      have en : Same H1 (upd H' p (.tup [.int pl, .ref p2])) := e.trans (same_new hpn _)
      obtain ⟨k1, k2, _⟩ := hP.ok i hi
      obtain ⟨g1, g2, g3⟩ := hR.1.2 i hi
      rw [rk_at er] at k2 g2
      have epk : pk ps i = pl := by unfold pk; rw [List.getD_eq_getElem?_getD, ep]; rfl
      rw [epk] at k1 k2
      refine ⟨p, _, rfl, SqT.of upd_same, rfl, _, _, rfl, _, _, rfl, rfl, ?_⟩
      refine yesT ?_
      refine ⟨_, rfl, _, rfl, p2, _, _, _, rfl, rfl, SqT.of (en _ _ hp2), rfl, pl, r.2, rfl, by omega, k1, k2, en, ?_⟩
      rw [ea, List.replicate_succ', List.map_append]
      rfl
  have s3 := same_new hlc0 (.lst acc)
  refine ⟨lc, List.replicate (ps.map V.int).length true, rfl, SqL.of (by rw [upd_same, ea]), _, rfl, ?_⟩
  rw [all_rep]
  have e13 := e2.trans s3
  refine iteF ?_
  refine ⟨_, rfl, _, rfl, lr, b, zr, rmK ks, ps, rfl, e13 _ _ hlr, hzr.same e13, e13 _ _ hb1, hlp, by omega, fun ls zs H3 e3 hls hzs => ?_⟩
  have e03 := (e1.trans e13).trans e3
  have hlzs : zs.length ≤ 5 := by rw [hzs.len, List.length_map, List.length_map, List.length_zip]; omega
  refine ⟨_, rfl, ls, a, _, _, rfl, rfl, hls, e03 _ _ ha, size5 (by omega), fun l4 hl4 => ?_⟩
  have s4 := same_new hl4 (.lst (zs ++ lv))
  have hall : IsDs (upd H3 l4 (.lst (zs ++ lv))) ((((rmK ks).zip ps).map stOf ++ ly).map rdt) (zs ++ lv) := by rw [List.map_append]; exact IsDs.app ((hlv.same e03).same s4) (hzs.same s4)
  obtain ⟨ts, t1, t2, t3⟩ := pairs_ts hall
  have hts : ts.length ≤ 25 := by
    have := congrArg List.length t1
    rw [List.length_map, List.length_append] at this
    omega
  refine ⟨l4, ts, rfl, SqL.of (by rw [upd_same, t1]), fun t ht => ⟨SqT.of (t3 t ht), fun z => ?_⟩, by omega, fun us hp hw l5 hl5 => ?_⟩
  · have h3 : t.2 ∈ ts.map (·.2) := List.mem_map.mpr ⟨t, ht, rfl⟩
    rw [t2, z] at h3
    obtain ⟨s, _, e⟩ := List.mem_map.mp h3
    cases e
  have s5 := same_new hl5 (.lst (us.map fun t => V.ref t.1))
  obtain ⟨u1, u2, u3⟩ := sorted_st t2 t3 hp hw
  obtain ⟨d1, d2⟩ := plc_dj hR.1 hL.1 hP hlp
  have hRi : Rising (us.map fun t => prL t.2) := rising_of (fun s hs => d2 s (u1.mem_iff.mp hs)) u2 (dj_perm u1 d1)
  refine ⟨l5, _, us.map fun t => prL t.2, rfl, upd_same, u3.same s5, hRi, by rw [List.length_map, hp.length_eq]; omega, fun H6 e6 => q H6 (((e03.trans s4).trans s5).trans e6)⟩
end

theorem Rising.snoc {ly : List (Int × Int)} {e a b : Int} (h : Rising ly) (he : ∀ s ∈ ly, s.2 ≤ e) (h1 : 0 ≤ a) (h2 : e ≤ a) (h3 : a < b) : Rising (ly ++ [(a, b)]) := by
  refine ⟨fun s hs => ?_, List.pairwise_append.mpr ⟨h.2, List.pairwise_singleton _ _, fun s hs t ht => ?_⟩⟩
  · rcases List.mem_append.mp hs with hs | hs
    · exact h.1 s hs
    · rw [List.mem_singleton.mp hs]
      exact ⟨h1, h3⟩
  · rw [List.mem_singleton.mp ht]
    have := he s hs
    show s.2 ≤ a
    omega

theorem perm_pull {α β : Type} (f : α → β) {xs ys : List β} (h : xs.Perm ys) : ∀ {qs : List α}, qs.map f = ys → ∃ qs' : List α, qs'.map f = xs ∧ qs'.Perm qs := by
  induction h with
  | nil => intro qs e; exact ⟨qs, e, List.Perm.refl _⟩
  | cons x _ ih =>
    intro qs e
    cases qs with
    | nil => cases e
    | cons q r =>
      obtain ⟨e1, e2⟩ := List.cons.inj e
      obtain ⟨r', a, b⟩ := ih e2
      exact ⟨q :: r', by rw [List.map_cons, e1, a], b.cons q⟩
  | swap x y l =>
    intro qs e
    match qs, e with
    | p :: q :: r, e =>
      obtain ⟨e1, e2⟩ := List.cons.inj e
      obtain ⟨e2, e3⟩ := List.cons.inj e2
      exact ⟨q :: p :: r, by rw [List.map_cons, List.map_cons, e1, e2, e3], List.Perm.swap p q r⟩
  | trans _ _ ih1 ih2 =>
    intro qs e
    obtain ⟨q2, a, b⟩ := ih2 e
    obtain ⟨q1, c, d⟩ := ih1 a
    exact ⟨q1, c, d.trans b⟩
def Laid (e : Int) (ly rs us : List (Int × Int)) : Prop := ∃ qs : List ((Int × Int) × Int), us = ly ++ qs.map stOf ∧ qs.map (·.1) = rs ∧ (∀ q ∈ qs, 0 ≤ q.2 ∧ q.2 % q.1.2 = 0 ∧ q.2 + q.1.1 ≤ e) ∧ us.Pairwise Dj
theorem Laid.len {e : Int} {ly rs us : List (Int × Int)} (h : Laid e ly rs us) : us.length = ly.length + rs.length := by
  obtain ⟨qs, rfl, rfl, _⟩ := h
  rw [List.length_append, List.length_map, List.length_map]
theorem Laid.start {e : Int} {ly : List (Int × Int)} (h : Rising ly) : Laid e ly [] ly := ⟨[], (List.append_nil _).symm, rfl, fun q hq => (nomatch hq), h.2.imp fun h => Or.inl h⟩
theorem Laid.more {e : Int} {ly rs us : List (Int × Int)} (h : Laid e ly rs us) (r : Int × Int) {p : Int} (h0 : 0 ≤ p) (h1 : p % r.2 = 0) (h2 : p + r.1 ≤ e) (h3 : ∀ s ∈ us, p + r.1 ≤ s.1 ∨ s.2 ≤ p) : Laid e ly (rs ++ [r]) (us ++ [(p, p + r.1)]) := by
  obtain ⟨qs, rfl, rfl, a, b⟩ := h
  refine ⟨qs ++ [(r, p)], by rw [List.map_append, List.append_assoc]; rfl, by rw [List.map_append]; rfl, fun q hq => ?_, List.pairwise_append.mpr ⟨b, List.pairwise_singleton _ _, fun s hs t ht => ?_⟩⟩
  · rcases List.mem_append.mp hq with hq | hq
    · exact a q hq
    · rw [List.mem_singleton.mp hq]
      exact ⟨h0, h1, h2⟩
  · rw [List.mem_singleton.mp ht]
    exact (h3 s hs).symm
theorem laid_due {e : Int} {ly rs rs2 us : List (Int × Int)} (h : Laid e ly rs2 us) (hp : rs2.Perm rs) (hg : Good rs) (hb : baseL ly ≤ e) : dueE rs ly ≤ e := by
  obtain ⟨qs0, rfl, rfl, a0, b0⟩ := h
  obtain ⟨qs, hq, pq⟩ := perm_pull (·.1) hp.symm (qs := qs0) rfl
  have a : ∀ q ∈ qs, 0 ≤ q.2 ∧ q.2 % q.1.2 = 0 ∧ q.2 + q.1.1 ≤ e := fun q hq => a0 q (pq.mem_iff.mp hq)
  have b : (ly ++ qs.map stOf).Pairwise Dj := dj_perm ((pq.map stOf).append_left ly) b0
  subst hq
  obtain ⟨b1, b2, b3⟩ := List.pairwise_append.mp b
  have kq : ∀ k (hk : k < (qs.map (·.1)).length), ∃ q ∈ qs, pk (qs.map (·.2)) k = q.2 ∧ rk (qs.map (·.1)) k = q.1 ∧ qs[k]? = some q := fun k hk => by
    rw [List.length_map] at hk
    refine ⟨qs[k], List.getElem_mem _, ?_, rk_at (by rw [List.getElem?_map, List.getElem?_eq_getElem hk]; rfl), List.getElem?_eq_getElem hk⟩
    unfold pk
    rw [List.getD_eq_getElem?_getD, List.getElem?_map, List.getElem?_eq_getElem hk]
    rfl
  have hd : ∀ k j q r, k < j → qs[k]? = some q → qs[j]? = some r → Dj (stOf q) (stOf r) := fun k j q r hkj e1 e2 => by
    obtain ⟨h1, rfl⟩ := List.getElem?_eq_some_iff.mp e1
    obtain ⟨h2, rfl⟩ := List.getElem?_eq_some_iff.mp e2
    have := List.pairwise_iff_getElem.mp b2 k j (by rw [List.length_map]; exact h1) (by rw [List.length_map]; exact h2) hkj
    rw [List.getElem_map, List.getElem_map] at this
    exact this
  refine due_le hg (ps := qs.map (·.2)) ⟨fun k hk => ?_, fun k j hk hj hne => ?_⟩ (fun k hk => ?_) hb
  · obtain ⟨q, m, e1, e2, _⟩ := kq k hk
    rw [e1, e2]
    refine ⟨(a q m).1, (a q m).2.1, fun s hs => ?_⟩
    exact (b3 s hs (stOf q) (List.mem_map.mpr ⟨q, m, rfl⟩)).symm
  · obtain ⟨q, m, e1, e2, e3⟩ := kq k hk
    obtain ⟨r, m', e4, e5, e6⟩ := kq j hj
    rw [e1, e2, e4, e5]
    rcases Nat.lt_or_gt_of_ne hne with c | c
    · exact hd k j q r c e3 e6
    · exact (hd j k r q c e6 e3).symm
  · obtain ⟨q, m, e1, e2, _⟩ := kq k hk
    rw [e1, e2]
    exact (a q m).2.2
def nmK (rs : List (Int × Int)) : List Kd := rs.map fun r => Kd.num r.1 r.2
theorem rm_nm : ∀ (rs : List (Int × Int)), rmK (nmK rs) = rs
  | [] => rfl
  | r :: rs => by show (r.1, r.2) :: rmK (nmK rs) = _; rw [rm_nm rs]
theorem nums_ts {H : Hp} : ∀ {rs : List (Int × Int)} {ws : List V}, IsDs H (dtK (nmK rs)) ws → ∃ ts : List TI2, ws = ts.map (fun t => V.ref t.1) ∧ ts.map (·.2) = rs.map (fun s => [s.1, s.2]) ∧ ∀ t ∈ ts, H t.1 = some (.tup (.str "number" :: t.2.map V.int))
  | [], _, h => ⟨[], h, rfl, fun t ht => (nomatch ht)⟩
  | s :: rs, _, ⟨v, vr, h1, ⟨a, vs, q1, q2, u0, r0, q8, q9, u1, r1, q3, q4, u2, r2, q5, q6, q7⟩, h3⟩ => by
    subst h1 q1 q8 q3 q5 q7
    cases q9
    cases q4
    cases q6
    obtain ⟨ts, a1, a2, a3⟩ := nums_ts h3
    refine ⟨(a, [s.1, s.2]) :: ts, by rw [a1]; rfl, by rw [List.map_cons, List.map_cons, a2], fun t ht => ?_⟩
    rcases List.mem_cons.mp ht with e | e
    · rw [e]; exact q2
    · exact a3 t e
def PileIn (H : Hp) (e : Int) (ly rs : List (Int × Int)) (pv : List V) : Prop := ∀ x ∈ pv, ∃ (b : Addr) (xs : List V) (us : List (Int × Int)), x = .ref b ∧ H b = some (.lst xs) ∧ IsDs H (us.map rdt) xs ∧ Laid e ly rs us
theorem PileIn.same {H H' : Hp} {e : Int} {ly rs : List (Int × Int)} {pv : List V} (h : PileIn H e ly rs pv) (s : Same H H') : PileIn H' e ly rs pv := fun x hx => by
  obtain ⟨b, xs, us, h1, h2, h3, h4⟩ := h x hx
  exact ⟨b, xs, us, h1, s _ _ h2, h3.same s, h4⟩
theorem same_hide {H H' : Hp} {l : Addr} (e : Same H H') (hl : H l = none) : Same H (hide l H') := fun b o hb => by
  rw [hide_ne (ne_of_none hb hl)]
  exact e _ _ hb
theorem for_ranges {lo c : Int} {n : Nat} {g : TG} {tb : TS} {D : Ends} {σ : St} {H : Hp} (Pv : Nat → St → Hp → Prop) (h0 : Pv 0 σ H)
    (hs : ∀ i σ H, i < n → Pv i σ H → g (.int (lo + i * c)) σ H fun σ2 H2 => tb { D with nx := Pv (i + 1), ct := Pv (i + 1), bk := D.nx } σ2 H2) (hd : ∀ σ H, Pv n σ H → D.nx σ H) :
    ∃ W : Nat → Nat → St → Hp → Prop, (∃ m, W 0 m σ H) ∧ ∀ i m σ H, W i m σ H →
      ((Itrs lo c n).stop i H ∧ D.nx σ H) ∨ ((Itrs lo c n).go i H ∧ ∃ N : St → Hp → Prop, (∀ σ' H', N σ' H' → ∃ m', m' < m ∧ W (i + 1) m' σ' H') ∧ ∀ x H', (Itrs lo c n).yld i H x H' → g x σ H' fun σ2 H2 => tb { D with nx := N, ct := N, bk := D.nx } σ2 H2) := by
  refine ⟨fun i m σ H => m = n - i ∧ i ≤ n ∧ Pv i σ H, ⟨n, by simp, Nat.zero_le _, h0⟩, ?_⟩
  rintro i m σ H ⟨rfl, hi, p⟩
  by_cases hlt : i < n
  · refine .inr ⟨hlt, Pv (i + 1), fun σ' H' p' => ⟨n - (i + 1), by omega, rfl, hlt, p'⟩, fun x H' y => ?_⟩
    obtain ⟨e, y⟩ := y
    subst e y
    exact hs i σ _ hlt p
  · have e : i = n := by omega
    subst e
    exact .inl ⟨Nat.le_refl _, hd σ H p⟩
theorem pow160 : ∀ i, i < 3 → 160 ^ i ≤ 25600 := by decide
def spLY : Sp := fun vs H Q _ => ∃ (p : Addr), vs = [.ref p] ∧ DeckAt p H ∧
  ∀ (ly : List (Int × Int)) (l : Addr) (lv : List V) (H' : Hp), SameX p H H' → H l = none → l ≠ p → H' l = some (.lst lv) → IsDs (hide p H') (ly.map rdt) lv → LyOk ly → (∀ s ∈ ly, s.2 ≤ 39) → (ly.length : Int) ≤ 3 → DeckAt p H' → Q (.ref l) H'
def NumOk (rs : List (Int × Int)) : Prop := rs.length ≤ 3 ∧ ∀ r ∈ rs, 1 ≤ r.1 ∧ r.1 ≤ 8 ∧ 1 ≤ r.2 ∧ r.2 ≤ 8
def spLO : Sp := fun vs H Q _ => ∃ (c a : Addr) (e : Int) (cv lv : List V) (rs ly : List (Int × Int)), vs = [.ref c, .ref a, .int e] ∧ H c = some (.lst cv) ∧ IsDs H (dtK (nmK rs)) cv ∧ H a = some (.lst lv) ∧ IsDs H (ly.map rdt) lv ∧ NumOk rs ∧ Rising ly ∧ ly.length ≤ 3 ∧ 0 ≤ e ∧ e ≤ 158 ∧ (∀ rs2 us, rs2.Perm rs → Laid e ly rs2 us → False) ∧ ∀ H', Same H H' → Q (.bl false) H'
section
variable {P : Program} {w : World} {K : PySem.W.Frag} {mg : Str → Option Value} {base : Heap} {f fNX : Addr} {fd dNX : FuncData}
set_option maxHeartbeats 8000000 in
theorem ok_ly (F : Fun K "_law_lying" "_law_lying" s_law_lying f fd) (xNX : Fx K mg "_law_next" s_law_next ["deck"] fNX dNX) (GNX : FnOk P w K mg base CX0 1 fNX dNX ["deck"] spNX) (m_range : mg "range" = none) : FnOk P w K mg base CX0 2 f fd ["deck"] spLY := by
  refine F.ok sc_law_lying (fun vs H Q E h => ?_) (fun cdv A outer s H vs Q E hr h => ?_)
  · obtain ⟨p, rfl, _⟩ := h
    rfl
  obtain ⟨p, rfl, hP, q⟩ := h
  have bNX := xNX.b
  have kNX := xNX.k
  have mNX := xNX.m
  refine ⟨_, (pss_cons (ps_set (i := 1) sc_law_lying.nd rfl (Or.inl rfl) (pe_lst pa_nil))
    (pss_cons (ps_set (i := 2) sc_law_lying.nd rfl (Or.inl rfl) pe_int)
    (pss_cons (ps_for PassesOwn.never rfl (pi_range1 rfl m_range (pa_cons (pe_op op_mod (pe_call GNX hr rfl mNX kNX bNX .nil pass0 (pa_cons (pv 0) pa_nil)) pe_int) pa_nil)) (pg_name (i := 3) sc_law_lying.nd rfl (Or.inl rfl)) (pss_cons (ps_set (i := 4) sc_law_lying.nd rfl (Or.inl rfl) (pe_op op_add (pv 2) (pe_op op_mod (pe_call GNX hr rfl mNX kNX bNX .nil pass0 (pa_cons (pv 0) pa_nil)) pe_int)))
    (pss_cons (ps_set (i := 2) sc_law_lying.nd rfl (Or.inl rfl) (pe_op op_add (pe_op op_add (pv 4) pe_int) (pe_op op_mod (pe_call GNX hr rfl mNX kNX bNX .nil pass0 (pa_cons (pv 0) pa_nil)) pe_int)))
    (pss_one (ps_expr (pe_bm PySem.F.plainAttrs_list PySem.F.slot_list_append PySem.F.type_list_append mt_append (pv 1) (pa_cons (pe_tup (pa_cons (pv 4) (pa_cons (pv 2) pa_nil))) pa_nil)))))))
    (pss_one (ps_ret (pv 1)))))), ?_⟩
  refine ⟨lists3 0 (by decide), fun l hl => ?_⟩
  have s0 := same_new hl (.lst [])
  have hlp : l ≠ p := hP.ne hl
  refine ⟨_, rfl, p, rfl, hP.same s0, fun r H1 r0 r1 e1 hP1 => ⟨_, _, rfl, rfl, (by show (0 : Int) < 4; decide), ?_⟩⟩
  have g0 : (0 : Int) ≤ r % 4 := Int.emod_nonneg _ (by omega)
  have g1 : r % 4 < 4 := Int.emod_lt_of_pos _ (by omega)
  refine ⟨_, rfl, by omega, by omega, ?_⟩
  refine for_range (fun i σ H' => ∃ (ly : List (Int × Int)) (lv : List V) (e : Int) (x5 x6 : Option V), σ = [some (.ref p), some (.ref l), some (.int e), x5, x6] ∧ SameX p H H' ∧ H' l = some (.lst lv) ∧ IsDs (hid2 l p H') (ly.map rdt) lv ∧ DeckAt p H' ∧ Rising ly ∧ ly.length = i ∧ (∀ s ∈ ly, s.2 ≤ e) ∧ 0 ≤ e ∧ e ≤ (i : Int) * 13)
    ⟨[], [], 0, _, _, rfl, (SameX.of s0).trans e1, e1.get hlp upd_same, rfl, hP1, ⟨fun s hs => (nomatch hs), List.Pairwise.nil⟩, rfl, fun s hs => (nomatch hs), Int.le_refl _, by simp⟩ (fun i σ H' hi ⟨ly, lv, e, x5, x6, es, eS, hL, hD, hP', hRi, hlen, hle, he0, he1⟩ => ?_) (fun σ H' ⟨ly, lv, e, x5, x6, es, eS, hL, hD, hP', hRi, hlen, hle, he0, he1⟩ => ?_)
  · subst es
    refine ⟨_, rfl, _, rfl, p, rfl, hP', fun a1 H2 a10 a11 e2 hP2 => ⟨_, _, rfl, rfl, (by show (0 : Int) < 9; decide), _, _, rfl, rfl, ?_⟩⟩
    refine ⟨_, rfl, _, _, rfl, rfl, _, rfl, p, rfl, hP2, fun a2 H3 a20 a21 e3 hP3 => ⟨_, _, rfl, rfl, (by show (0 : Int) < 5; decide), _, _, rfl, rfl, ?_⟩⟩
    have b0 : (0 : Int) ≤ a1 % 9 := Int.emod_nonneg _ (by omega)
    have b1 : a1 % 9 < 9 := Int.emod_lt_of_pos _ (by omega)
    have c0 : (0 : Int) ≤ a2 % 5 := Int.emod_nonneg _ (by omega)
    have c1 : a2 % 5 < 5 := Int.emod_lt_of_pos _ (by omega)
    have hL3 := e3.get hlp (e2.get hlp hL)
    refine ⟨_, rfl, .inl ⟨rfl, _, SqL.of hL3⟩, _, rfl, _, rfl, lists3 2 (by decide), fun t ht => ?_⟩
    have s4 := same_new ht (.tup [.int (e + a1 % 9), .int (e + a1 % 9 + 1 + a2 % 5)])
    have tl : t ≠ l := fun z => by rw [z, hL3] at ht; cases ht
    have tp : t ≠ p := hP3.ne ht
    have hlv : lv.length = i := by rw [hD.len, List.length_map, hlen]
    have hi20 : (i : Int) ≤ 20 := by omega
    refine ⟨l, _, _, rfl, rfl, s4 _ _ hL3, small1000 (by omega), ?_⟩
    have hDD : SameY l p H' (upd (upd H3 t (.tup [.int (e + a1 % 9), .int (e + a1 % 9 + 1 + a2 % 5)])) l (.lst (lv ++ [.ref t]))) := by
      intro b o hb
      obtain ⟨n1, n2, hb⟩ := hid2_some hb
      exact hid2_of n1 n2 (by rw [upd_ne n1]; exact s4 _ _ (e3.get n2 (e2.get n2 hb)))
    refine ⟨ly ++ [(e + a1 % 9, e + a1 % 9 + 1 + a2 % 5)], lv ++ [.ref t], _, _, _, rfl, ?_, upd_same, ?_, ?_, hRi.snoc hle (by omega) (by omega) (by omega), by rw [List.length_append, hlen]; rfl, fun s hs => ?_, by omega, ?_⟩
    · intro b o hb
      obtain ⟨n2, hb⟩ := hide_some hb
      have n1 : b ≠ l := ne_of_none hb hl
      rw [hide_ne n2, upd_ne n1]
      exact s4 _ _ (e3.get n2 (e2.get n2 (eS.get n2 hb)))
    · rw [List.map_append]
      exact IsDs.snoc (d := rdt (e + a1 % 9, e + a1 % 9 + 1 + a2 % 5)) ⟨t, _, rfl, hid2_of tl tp (by rw [upd_ne tl]; exact upd_same), _, _, rfl, rfl, _, _, rfl, rfl, rfl⟩ (hD.same hDD)
    · obtain ⟨ns, q1, q2⟩ := hP3.same s4
      exact ⟨ns, by rw [upd_ne (fun z => hlp z.symm)]; exact q1, q2⟩
    · rcases List.mem_append.mp hs with hs | hs
      · have := hle s hs
        omega
      · rw [List.mem_singleton.mp hs]
        exact Int.le_refl _
    · have : ((i + 1 : Nat) : Int) * 13 = (i : Int) * 13 + 13 := by omega
      omega
  · subst es
    refine ⟨_, rfl, q ly l lv H' eS hl hlp hL (hD.same (hide_sub _ _)) ⟨hRi, by omega, fun s hs => ?_⟩ (fun s hs => ?_) (by omega) hP'⟩
    · have := hle s hs
      have : (((r % 4).toNat : Nat) : Int) * 13 ≤ 3 * 13 := Int.mul_le_mul_of_nonneg_right (by omega) (by decide)
      omega
    · have := hle s hs
      have : (((r % 4).toNat : Nat) : Int) * 13 ≤ 3 * 13 := Int.mul_le_mul_of_nonneg_right (by omega) (by decide)
      omega
set_option maxHeartbeats 16000000 in
theorem ok_lo (F : Fun K "_law_lower" "_law_lower" s_law_lower f fd) (m_range : mg "range" = none) (m_list : mg "list" = none) (m_sorted : mg "sorted" = none) : FnOk P w K mg base CX0 1 f fd ["kinds", "lying", "end"] spLO := by
  refine F.ok sc_law_lower (fun vs H Q E h => ?_) (fun cdv A outer s H vs Q E hr h => ?_)
  · obtain ⟨c, a, e, cv, lv, rs, ly, rfl, _⟩ := h
    rfl
  obtain ⟨c, a, e, cv, lv, rs, ly, rfl, hc, hcv, ha, hlv, hN, hR, h3, he0, he1, hno, q⟩ := h
  have hu := hr.units0
  refine ⟨_, (pss_cons (ps_set (i := 3) sc_law_lower.nd rfl (Or.inl rfl) (pe_lst (pa_cons (pe_callTy call_list_of rfl m_list bt_list (pa_cons (pv 1) pa_nil)) pa_nil)))
    (pss_cons (ps_for PassesOwn.never rfl (pi_list (pe_revL (pe_callB call_sortedW rfl m_sorted bt_sorted (pa_cons (pv 0) pa_nil)))) (pg_tup rfl (pgs_cons (pg_name (i := 4) sc_law_lower.nd rfl (Or.inl rfl)) (pgs_cons (pg_name (i := 5) sc_law_lower.nd rfl (Or.inr rfl)) (pgs_cons (pg_name (i := 6) sc_law_lower.nd rfl (Or.inl rfl)) pgs_nil)))) (pss_cons (ps_set (i := 7) sc_law_lower.nd rfl (Or.inl rfl) (pe_lst pa_nil))
    (pss_cons (ps_for PassesOwn.never rfl (pi_list (pv 3)) (pg_name (i := 8) sc_law_lower.nd rfl (Or.inl rfl)) (pss_one (ps_for PassesOwn.never rfl (pi_range3 rfl m_range (pa_cons pe_int (pa_cons (pe_op op_add (pe_op op_sub (pv 2) (pv 5)) pe_int) (pa_cons (pv 6) pa_nil)))) (pg_name (i := 9) sc_law_lower.nd rfl (Or.inr rfl)) (pss_one (ps_if (pt_cmpR (op_eqNil hu) (pe_comp (dsc := defScope s_law_lower) (N := ["kinds", "lying", "end", "pile", "word", "room", "m", "longer", "laid", "place"]) (tgs := ["low", "high"]) (outs := [5, 9]) (N' := ["low", "high", "room", "place"]) ⟨rfl, by decide +kernel, by decide +kernel, by decide +kernel, rfl, by decide +kernel, by decide +kernel, by decide +kernel⟩ (pi_list (pv 8)) (fun _ _ _ _ _ => (pg_tupK K (n := 2) rfl rfl (pgs_cons (pg_name (i := 0) (show (["low", "high", "room", "place"] : List Str).Nodup by decide +kernel) rfl (Or.inl rfl) (.inr rfl)) (pgs_cons (pg_name (i := 1) (show (["low", "high", "room", "place"] : List Str).Nodup by decide +kernel) rfl (Or.inl rfl) (.inr rfl)) pgs_nil)))) (tgt_tup (tgts_name (by decide) (tgts_name (by decide) tgts_nil tmono_nil) (tmono_name tmono_nil))) (fun _ _ _ _ _ => (pcs_one (PW.pt (pw_and (pt_cmpR op_lt (pv 0) (pe_op op_add (pv 3) (pv 2)) (nomark _)) (pw_and1 (pt_cmpR op_lt (pv 3) (pv 1) (nomark _))))))) (fun _ _ _ _ _ => pe_int)) (pe_lst pa_nil) (nomark _)) (pss_one (ps_expr (pe_bm PySem.F.plainAttrs_list PySem.F.slot_list_append PySem.F.type_list_append mt_append (pv 7) (pa_cons (pe_op op_cat (pv 8) (pe_lst (pa_cons (pe_tup (pa_cons (pv 9) (pa_cons (pe_op op_add (pv 9) (pv 5)) pa_nil))) pa_nil))) pa_nil)))) pss_nil)))))
    (pss_one (ps_set (i := 3) sc_law_lower.nd rfl (Or.inl rfl) (pv 7))))))
    (pss_one (ps_ret (pe_cmpR (op_neNil hu) (pv 3) (pe_lst pa_nil) (nomark _)))))), ?_⟩
  refine ⟨_, rfl, a, _, rfl, .inl (SqL.of ha), fun l0 hl0 => ⟨lists3 1 (by decide), fun P0 hP0 => ?_⟩⟩
  have s0 := same_new hl0 (.lst lv)
  have s1 := same_new hP0 (.lst [.ref l0])
  have e1 := s0.trans s1
  have hl00 : (upd (upd H l0 (.lst lv)) P0 (.lst [.ref l0])) l0 = some (.lst lv) := s1 _ _ upd_same
  have hP00 : (upd (upd H l0 (.lst lv)) P0 (.lst [.ref l0])) P0 = some (.lst [.ref l0]) := upd_same
  generalize upd (upd H l0 (.lst lv)) P0 (.lst [.ref l0]) = H1 at e1 hl00 hP00
  obtain ⟨ts, rfl, ht2, hts⟩ := nums_ts (hcv.same e1)
  have htl : ts.length = rs.length := by
    have := congrArg List.length ht2
    rwa [List.length_map, List.length_map] at this
  have hN3 := hN.1
  refine ⟨_, rfl, c, "number", ts, rfl, SqL.of (e1 _ _ hc), fun t ht => SqT.of (hts t ht), by omega, fun us hp _ ls hls => ⟨ls, _, rfl, SqL.of upd_same, fun lr hlr => ⟨lr, rfl, ⟨_, SqL.of upd_same⟩, ?_⟩⟩⟩
  have e2 := (same_new hls (.lst (us.map fun t => V.ref t.1))).trans (same_new hlr (.lst (us.map fun t => V.ref t.1).reverse))
  have hlr0 : (upd (upd H1 ls (.lst (us.map fun t => V.ref t.1))) lr (.lst (us.map fun t => V.ref t.1).reverse)) lr = some (.lst (us.map fun t => V.ref t.1).reverse) := upd_same
  generalize upd (upd H1 ls (.lst (us.map fun t => V.ref t.1))) lr (.lst (us.map fun t => V.ref t.1).reverse) = H2 at e2 hlr0
  have e12 := e1.trans e2
  have hrv : (us.map fun t => V.ref t.1).reverse = us.reverse.map fun t => V.ref t.1 := List.map_reverse.symm
  rw [hrv] at hlr0
  have hpr : us.reverse.Perm ts := (List.reverse_perm us).trans hp
  generalize us.reverse = zs at hlr0 hpr
  have hzl : zs.length = rs.length := by rw [hpr.length_eq, htl]
  have hprs : (zs.map fun t => prL t.2).Perm rs := by
    have e3 : ts.map (fun t => prL t.2) = rs := by
      have := congrArg (List.map prL) ht2
      rw [List.map_map, List.map_map] at this
      refine Eq.trans this ?_
      have : (prL ∘ fun s : Int × Int => [s.1, s.2]) = id := funext fun s => rfl
      rw [this, List.map_id]
    have := hpr.map fun t => prL t.2
    rwa [e3] at this
  have hzt : ∀ t ∈ zs, H2 t.1 = some (.tup (.str "number" :: t.2.map V.int)) ∧ t.2 = [(prL t.2).1, (prL t.2).2] ∧ prL t.2 ∈ rs := fun t ht => by
    have ht' := hpr.mem_iff.mp ht
    have h2 : t.2 ∈ rs.map fun s => [s.1, s.2] := by rw [← ht2]; exact List.mem_map.mpr ⟨t, ht', rfl⟩
    obtain ⟨s, hs, es⟩ := List.mem_map.mp h2
    refine ⟨e2 _ _ (hts t ht'), ?_, ?_⟩
    · rw [← es]; rfl
    · rw [← es]; exact hs
  generalize hrs2 : (zs.map fun t => prL t.2) = rs2 at hprs
  refine for_list (xs := zs.map fun t => V.ref t.1) (fun i σ H' => ∃ (P : Addr) (pv : List V) (x4 x5 x6 x7 x8 x9 : Option V), σ = [some (.ref c), some (.ref a), some (.int e), some (.ref P), x4, x5, x6, x7, x8, x9] ∧ Same H2 H' ∧ H' P = some (.lst pv) ∧ PileIn H' e ly (rs2.take i) pv ∧ pv.length ≤ 160 ^ i)
    ⟨P0, [.ref l0], _, _, _, _, _, _, rfl, Same.refl _, e2 _ _ hP00, fun x hx => ⟨l0, lv, ly, List.mem_singleton.mp hx, e2 _ _ hl00, hlv.same e12, Laid.start hR⟩, Nat.le_refl 1⟩
    (fun i σ H' hi ⟨P, pv, x4, x5, x6, x7, x8, x9, es, e3, hP, hpl, hpn⟩ => SqL.of (e3 _ _ hlr0)) (fun i x σ H' hx ⟨P, pv, x4, x5, x6, x7, x8, x9, es, e3, hP, hpl, hpn⟩ => ?_) (fun σ H' ⟨P, pv, x4, x5, x6, x7, x8, x9, es, e3, hP, hpl, hpn⟩ => ?_)
  · subst es
    rw [List.getElem?_map] at hx
    cases hz : zs[i]? with
    | none => rw [hz] at hx; cases hx
    | some t =>
      rw [hz] at hx
      cases hx
      have hi : i < zs.length := (List.getElem?_eq_some_iff.mp hz).1
      have hi3 : i < 3 := by omega
      obtain ⟨t1, t2, t3⟩ := hzt t (List.mem_of_getElem? hz)
      generalize hr0 : prL t.2 = r at t2 t3
      rw [t2] at t1
      obtain ⟨r1, r2, r3, r4⟩ := hN.2 r t3
      have htk : rs2.take (i + 1) = rs2.take i ++ [r] := take_snoc (by rw [← hrs2, List.getElem?_map, hz]; exact congrArg some hr0)
      have hp16 := pow160 i hi3
      refine ⟨t.1, _, rfl, SqT.of (e3 _ _ t1), rfl, _, _, rfl, _, _, rfl, _, _, rfl, rfl, ?_⟩
      refine ⟨lists3 0 (by decide), fun L hL => ?_⟩
      have s4 := same_new hL (.lst [])
      refine ⟨_, rfl, P, rfl, ⟨_, SqL.of (s4 _ _ hP)⟩, ?_⟩
      refine for_list (xs := pv) (fun k σ H'' => ∃ (lw : List V) (x8 x9 : Option V), σ = [some (.ref c), some (.ref a), some (.int e), some (.ref P), some (.str "number"), some (.int r.1), some (.int r.2), some (.ref L), x8, x9] ∧ Same H' H'' ∧ H'' L = some (.lst lw) ∧ PileIn (hide L H'') e ly (rs2.take (i + 1)) lw ∧ lw.length ≤ k * 160)
        ⟨[], _, _, rfl, s4, upd_same, fun x hx => (nomatch hx), Nat.zero_le _⟩
        (fun k σ H'' hk ⟨lw, x8, x9, es, e5, hLw, hpw, hln⟩ => SqL.of (e5 _ _ hP)) (fun k x σ H'' hx ⟨lw, x8, x9, es, e5, hLw, hpw, hln⟩ => ?_) (fun σ H'' ⟨lw, x8, x9, es, e5, hLw, hpw, hln⟩ => ?_)
      · subst es
        have hk : k < pv.length := (List.getElem?_eq_some_iff.mp hx).1
        obtain ⟨b, xs, us0, rfl, hb, hxs, hLd⟩ := hpl x (List.mem_of_getElem? hx)
        have hul : xs.length ≤ 6 := by
          rw [hxs.len, List.length_map, hLd.len, List.length_take]
          omega
        refine ⟨_, rfl, _, rfl, _, _, rfl, rfl, _, _, rfl, rfl, _, rfl, _, _, rfl, ⟨by omega, by omega, by omega, by omega⟩, fun n hn hn2 => ?_⟩
        have hn3 : n ≤ 160 := by omega
        refine for_ranges (fun j σ H3 => ∃ (lw : List V) (x9 : Option V), σ = [some (.ref c), some (.ref a), some (.int e), some (.ref P), some (.str "number"), some (.int r.1), some (.int r.2), some (.ref L), some (.ref b), x9] ∧ Same H' H3 ∧ H3 L = some (.lst lw) ∧ PileIn (hide L H3) e ly (rs2.take (i + 1)) lw ∧ lw.length ≤ k * 160 + j)
          ⟨lw, _, rfl, e5, hLw, hpw, by omega⟩ (fun j σ H3 hj ⟨lw, x9, es, e6, hLw, hpw, hln⟩ => ?_) (fun σ H3 ⟨lw, x9, es, e6, hLw, hpw, hln⟩ => ⟨lw, _, _, rfl.trans es |> id, e6, hLw, hpw, by omega⟩)
        subst es
        have hjm := hn j hj
        refine ⟨_, rfl, b, rfl, ⟨_, SqL.of (e6 _ _ hb)⟩, ?_⟩
        have hD3 := hxs.same e6
        refine comp_list (xs := xs) (fun i acc H4 => Same H3 H4 ∧ acc.length ≤ i ∧ (acc = [] → ∀ s ∈ us0.take i, 0 + (j : Int) * r.2 + r.1 ≤ s.1 ∨ s.2 ≤ 0 + (j : Int) * r.2)) (by omega) ⟨Same.refl _, Nat.le_refl _, fun _ s hs => (nomatch hs)⟩ (fun i acc H4 hi ⟨ee, ea, _⟩ => ⟨SqL.of (ee _ _ (e6 _ _ hb)), ea⟩) (fun j2 x acc H4 hx ⟨ee, ea, ef⟩ => ?_) (fun acc H4 ⟨ee, ea, ef⟩ lc hlc => ?_)
        · obtain ⟨st, pst, est, rfl, hpst⟩ := rooms_at hD3 hx
          refine ⟨pst, _, rfl, SqT.of (ee _ _ hpst), rfl, _, _, rfl, _, _, rfl, rfl, ?_⟩
          refine ⟨_, rfl, _, rfl, _, rfl, _, _, rfl, rfl, _, _, rfl, rfl, _, rfl, ?_⟩
          have stp : (acc = [] → ∀ s ∈ us0.take j2, 0 + (j : Int) * r.2 + r.1 ≤ s.1 ∨ s.2 ≤ 0 + (j : Int) * r.2) → (0 + (j : Int) * r.2 + r.1 ≤ st.1 ∨ st.2 ≤ 0 + (j : Int) * r.2) → (acc = [] → ∀ s ∈ us0.take (j2 + 1), 0 + (j : Int) * r.2 + r.1 ≤ s.1 ∨ s.2 ≤ 0 + (j : Int) * r.2) := fun h1 h2 h3 s hs => by
            rw [take_snoc est] at hs
            rcases List.mem_append.mp hs with hs | hs
            · exact h1 h3 s hs
            · rw [List.mem_singleton.mp hs]; exact h2
          by_cases c1 : st.1 < 0 + (j : Int) * r.2 + r.1
          · refine iteDT c1 ⟨_, rfl, _, rfl, _, _, rfl, rfl, _, rfl, ?_⟩
            by_cases c2 : 0 + (j : Int) * r.2 < st.2
            · exact iteDT c2 ⟨ee, by rw [List.length_append]; exact Nat.succ_le_succ ea, fun z => absurd z (by simp)⟩
            · exact iteND c2 ⟨ee, Nat.le_succ_of_le ea, stp ef (.inr (by omega))⟩
          · exact iteND c1 (iteF ⟨ee, Nat.le_succ_of_le ea, stp ef (.inl (by omega))⟩)
        have sc := same_new hlc (.lst acc)
        refine ⟨lists3 0 (by decide), fun l1 hl1 => ?_⟩
        have s5 := same_new hl1 (.lst [])
        refine ⟨lc, l1, _, rfl, rfl, SqL.of (s5 _ _ upd_same), SqL.of upd_same, _, rfl, ?_⟩
        have e7 : Same H3 (upd (upd H4 lc (.lst acc)) l1 (.lst [])) := (ee.trans sc).trans s5
        generalize upd (upd H4 lc (.lst acc)) l1 (.lst []) = H5 at e7
        cases acc with
        | cons y ys => exact iteF ⟨lw, _, rfl, e6.trans e7, e7 _ _ hLw, hpw.same (SameX.of e7), by omega⟩
        | nil =>
          refine iteT ?_
          have hfree : ∀ s ∈ us0, 0 + (j : Int) * r.2 + r.1 ≤ s.1 ∨ s.2 ≤ 0 + (j : Int) * r.2 := fun s hs => ef rfl s (by
            have : xs.length = us0.length := by rw [hxs.len, List.length_map]
            rw [this, List.take_length]
            exact hs)
          have hL5 := e7 _ _ hLw
          have hb5 := e7 _ _ (e6 _ _ hb)
          refine ⟨_, rfl, .inl ⟨rfl, _, SqL.of hL5⟩, _, rfl, _, rfl, _, rfl, _, rfl, _, _, rfl, rfl, lists3 2 (by decide), fun t0 ht0 => ⟨lists3 1 (by decide), fun l2 hl2 => ?_⟩⟩
          have s6 := same_new ht0 (.tup [.int (0 + (j : Int) * r.2), .int (0 + (j : Int) * r.2 + r.1)])
          have s7 := same_new hl2 (.lst [.ref t0])
          have ht05 := s7 _ _ (upd_same (H := H5) (a := t0) (o := .tup [.int (0 + (j : Int) * r.2), .int (0 + (j : Int) * r.2 + r.1)]))
          have e8 := s6.trans s7
          refine ⟨b, l2, xs, [.ref t0], rfl, rfl, e8 _ _ hb5, upd_same, size5 (by show xs.length + 1 ≤ _; omega), fun l3 hl3 => ?_⟩
          have s8 := same_new hl3 (.lst (xs ++ [.ref t0]))
          have e9 := e8.trans s8
          have ht06 := s8 _ _ ht05
          have hl33 : (upd (upd (upd H5 t0 (.tup [.int (0 + (j : Int) * r.2), .int (0 + (j : Int) * r.2 + r.1)])) l2 (.lst [.ref t0])) l3 (.lst (xs ++ [.ref t0]))) l3 = some (.lst (xs ++ [.ref t0])) := upd_same
          have tL : t0 ≠ L := fun z => by rw [z, hL5] at ht0; cases ht0
          have l3L : l3 ≠ L := fun z => by rw [z, e8 _ _ hL5] at hl3; cases hl3
          generalize upd (upd (upd H5 t0 (.tup [.int (0 + (j : Int) * r.2), .int (0 + (j : Int) * r.2 + r.1)])) l2 (.lst [.ref t0])) l3 (.lst (xs ++ [.ref t0])) = H6 at e9 ht06 hl33
          refine ⟨L, _, _, rfl, rfl, e9 _ _ hL5, by rw [sizeLine_eq]; omega, ?_⟩
          have hSx : SameX L H5 (upd H6 L (.lst (lw ++ [.ref l3]))) := (SameX.of e9).trans (SameX.upd _ _ _)
          refine ⟨lw ++ [.ref l3], _, rfl, same_set ((e6.trans e7).trans e9) hL _, upd_same, fun x hx => ?_, by rw [List.length_append]; show lw.length + 1 ≤ _; omega⟩
          rcases List.mem_append.mp hx with hx | hx
          · exact (hpw.same (SameX.of e7)).same hSx x hx
          · refine ⟨l3, xs ++ [.ref t0], us0 ++ [(0 + (j : Int) * r.2, 0 + (j : Int) * r.2 + r.1)], List.mem_singleton.mp hx, by rw [hide_ne l3L, upd_ne l3L]; exact hl33, ?_, ?_⟩
            · rw [List.map_append]
              exact IsDs.snoc (d := rdt (0 + (j : Int) * r.2, 0 + (j : Int) * r.2 + r.1)) ⟨t0, _, rfl, by rw [hide_ne tL, upd_ne tL]; exact ht06, _, _, rfl, rfl, _, _, rfl, rfl, rfl⟩ ((hxs.same (same_hide ((e6.trans e7)) hL)).same hSx)
            · rw [htk]
              have hjn : 0 ≤ (j : Int) * r.2 := Int.mul_nonneg (by omega) (by omega)
              exact hLd.more r (by omega) (by rw [Int.zero_add]; exact Int.mul_emod_left _ _) (by omega) hfree
      · subst es
        exact ⟨_, rfl, L, lw, _, _, _, _, _, _, rfl, e3.trans e5, hLw, hpw.same (hide_sub _ _), by rw [Nat.pow_succ]; exact Nat.le_trans hln (Nat.mul_le_mul_right _ hpn)⟩
  · subst es
    have hpv : pv = [] := by
      cases pv with
      | nil => rfl
      | cons x r =>
        obtain ⟨b, xs, us0, _, _, _, hLd⟩ := hpl x List.mem_cons_self
        have hfull : rs2.take (zs.map fun t => V.ref t.1).length = rs2 := List.take_of_length_le (by rw [List.length_map, ← hrs2, List.length_map]; exact Nat.le_refl _)
        rw [hfull] at hLd
        exact (hno rs2 us0 hprs hLd).elim
    subst hpv
    refine ⟨_, rfl, lists3 0 (by decide), fun l1 hl1 => ?_⟩
    have s5 := same_new hl1 (.lst [])
    exact ⟨P, l1, _, rfl, rfl, SqL.of (s5 _ _ hP), SqL.of upd_same, q _ ((e12.trans e3).trans s5)⟩
end

theorem dtK_map : ∀ (ks : List Kd), dtK ks = ks.map Kd.dt
  | [] => rfl
  | k :: r => by show k.dt :: dtK r = k.dt :: r.map Kd.dt; rw [dtK_map r]
theorem okK_iff : ∀ {ks : List Kd}, okK ks ↔ ∀ k ∈ ks, k.Ok
  | [] => ⟨fun _ f hf => (nomatch hf), fun _ => trivial⟩
  | g :: r => by
    constructor
    · intro h f hf
      rcases List.mem_cons.mp hf with e | e
      · rw [e]; exact h.1
      · exact okK_iff.mp h.2 f e
    · exact fun h => ⟨h g List.mem_cons_self, okK_iff.mpr fun f hf => h f (List.mem_cons_of_mem _ hf)⟩
theorem deepK_iff : ∀ {ks : List Kd} {n : Nat}, deepK ks ≤ n ↔ ∀ k ∈ ks, k.deep ≤ n
  | [], n => ⟨fun _ f hf => (nomatch hf), fun _ => Nat.zero_le _⟩
  | g :: r, n => by
    show max g.deep (deepK r) ≤ n ↔ _
    rw [Nat.max_le, deepK_iff (ks := r)]
    constructor
    · rintro ⟨a, b⟩ f hf
      rcases List.mem_cons.mp hf with e | e
      · rw [e]; exact a
      · exact b f e
    · exact fun h => ⟨h g List.mem_cons_self, fun f hf => h f (List.mem_cons_of_mem _ hf)⟩
theorem rs2_iff {rs : List (Int × Int)} : Rs2 rs ↔ rs.length ≤ 5 ∧ ∀ r ∈ rs, 1 ≤ r.1 ∧ r.1 ≤ 2000 ∧ 1 ≤ r.2 ∧ r.2 ≤ 8 := by
  constructor
  · intro h
    refine ⟨h.1.1, fun r hr => ?_⟩
    obtain ⟨k, hk⟩ := List.getElem?_of_mem hr
    have hl : k < rs.length := (List.getElem?_eq_some_iff.mp hk).1
    have a := h.1.2 k hl
    have b := h.2 k hl
    rw [rk_at hk] at a b
    exact ⟨a.1, b, a.2⟩
  · rintro ⟨h1, h2⟩
    refine ⟨⟨h1, fun k hk => ?_⟩, fun k hk => ?_⟩
    · have e := List.getElem?_eq_getElem hk
      rw [rk_at e]
      have := h2 _ (List.getElem_mem hk)
      exact ⟨this.1, this.2.2⟩
    · have e := List.getElem?_eq_getElem hk
      rw [rk_at e]
      exact (h2 _ (List.getElem_mem hk)).2.1
theorem base_is {ly : List (Int × Int)} {M : Int} (hM : M ∈ (0 : Int) :: ly.map (·.2)) (hle : ∀ a ∈ (0 : Int) :: ly.map (·.2), a ≤ M) : M = baseL ly := by
  rw [maxL_is (d := 0) hM (hle 0 List.mem_cons_self) hle]
  show max 0 (maxL 0 (ly.map (·.2))) = _
  have := maxL_d (d := 0) (ly.map (·.2))
  unfold baseL
  omega

theorem nm_at {H : Hp} {rs : List (Int × Int)} {vs : List V} {i : Nat} {x : V} (h : IsDs H (dtK (nmK rs)) vs) (e : vs[i]? = some x) : ∃ r p, rs[i]? = some r ∧ x = .ref p ∧ H p = some (.tup [.str "number", .int r.1, .int r.2]) := by
  obtain ⟨ts, rfl, h2, h3⟩ := nums_ts h
  rw [List.getElem?_map] at e
  cases hz : ts[i]? with
  | none => rw [hz] at e; cases e
  | some t =>
    rw [hz] at e
    cases e
    have h4 : (ts.map (·.2))[i]? = some t.2 := by rw [List.getElem?_map, hz]; rfl
    rw [h2, List.getElem?_map] at h4
    cases hr : rs[i]? with
    | none => rw [hr] at h4; cases h4
    | some r =>
      rw [hr] at h4
      have h5 : [r.1, r.2] = t.2 := Option.some.inj h4
      refine ⟨r, t.1, rfl, rfl, ?_⟩
      have := h3 t (List.mem_of_getElem? hz)
      rw [← h5] at this
      exact this
theorem nm_ok {rs : List (Int × Int)} (h : NumOk rs) : okK (nmK rs) ∧ deepK (nmK rs) ≤ 4 ∧ Rs2 (rmK (nmK rs)) := by
  refine ⟨okK_iff.mpr fun k hk => ?_, deepK_iff.mpr fun k hk => ?_, ?_⟩
  · obtain ⟨r, hr, rfl⟩ := List.mem_map.mp hk
    have := h.2 r hr
    show Kd.Ok (.num r.1 r.2)
    simp only [Kd.Ok]
    omega
  · obtain ⟨r, hr, rfl⟩ := List.mem_map.mp hk
    show Kd.deep (.num r.1 r.2) ≤ 4
    simp [Kd.deep]
  · rw [rm_nm]
    refine rs2_iff.mpr ⟨by have := h.1; omega, fun r hr => ?_⟩
    have := h.2 r hr
    omega
theorem due_small {rs ly : List (Int × Int)} (h : NumOk rs) (hg : Good rs) (hl : ∀ s ∈ ly, s.2 ≤ 39) : dueE rs ly ≤ 151 ∧ baseL ly ≤ 39 := by
  have hb : baseL ly ≤ 39 := maxL_le (by decide) fun a ha => by
    obtain ⟨s, hs, rfl⟩ := List.mem_map.mp ha
    exact hl s hs
  refine ⟨?_, hb⟩
  have a := way_le (ly := ly) (B := 39) (R := 8) hg (by decide) hl (fun k hk => by
    rw [rk_at (List.getElem?_eq_getElem hk)]
    exact (h.2 _ (List.getElem_mem hk)).2.1) (by decide) (full rs) (full_lt rs)
  have b : 2 ^ rs.length ≤ 2 ^ 3 := Nat.pow_le_pow_right (by decide) h.1
  have c : full rs ≤ 7 := by unfold full; omega
  unfold dueE
  omega
theorem ends_base {rs ly : List (Int × Int)} {M : Int} (hg : Good rs) (hR : Rising ly) (hM : M ∈ baseL ly :: endsP rs (dpP rs ly)) (hle : ∀ a ∈ baseL ly :: endsP rs (dpP rs ly), a ≤ M) : M = dueE rs ly := by
  have h0 : 0 ≤ baseL ly := maxL_d _
  have h1 := hle _ List.mem_cons_self
  rw [maxL_is (d := 0) hM (by omega) hle, ← ends_is hg hR, maxL_append]
  show max (baseL ly) (maxL 0 (endsP rs (dpP rs ly))) = max (maxL 0 (endsP rs (dpP rs ly))) (baseL ly)
  omega
section
variable {P : Program} {w : World} {K : PySem.W.Frag} {mg : Str → Option Value} {base : Heap} {f fCE fDE fNX fLY fPC fIS fLO : Addr} {fd dCE dDE dNX dLY dPC dIS dLO : FuncData}
def spLaw (K : PySem.W.Frag) : Sp := fun vs H Q _ => ∃ (a : Addr) (ns : List Int), vs = [.ref a] ∧ SqL K H a (ns.map V.int) ∧ ns.length ≤ 63 ∧ ∀ H', Q (.bl true) H'
theorem sql_same {K : PySem.W.Frag} {H H' : Hp} {a : Addr} {xs : List V} (h : SqL K H a xs) (e : Same H H') : SqL K H' a xs := by
  rcases h with (h | ⟨o, h⟩) | h
  · exact .inl (.inl (e _ _ h))
  · exact .inl (.inr ⟨o, e _ _ h⟩)
  · exact .inr h
set_option maxHeartbeats 16000000 in
theorem ok_law (F : Fun K "law" "law" s_law f fd) (xCE : Fx K mg "_law_cell_at" s_law_cell_at ["script", "k"] fCE dCE) (xDE : Fx K mg "_law_deck" s_law_deck ["cell", "many"] fDE dDE) (xNX : Fx K mg "_law_next" s_law_next ["deck"] fNX dNX) (xLY : Fx K mg "_law_lying" s_law_lying ["deck"] fLY dLY) (xPC : Fx K mg "placed_closely" s_placed_closely ["kinds", "lying"] fPC dPC) (xIS : Fx K mg "is_placing" s_is_placing ["kinds", "lying", "places"] fIS dIS) (xLO : Fx K mg "_law_lower" s_law_lower ["kinds", "lying", "end"] fLO dLO)
    (GCE : FnOk P w K mg base CX0 1 fCE dCE ["script", "k"] (spCE K)) (GDE : FnOk P w K mg base CX0 2 fDE dDE ["cell", "many"] spDE) (GNX : FnOk P w K mg base CX0 1 fNX dNX ["deck"] spNX) (GLY : FnOk P w K mg base CX0 2 fLY dLY ["deck"] spLY) (GPC : FnOk P w K mg base CX0 21 fPC dPC ["kinds", "lying"] (spPC 4)) (GIS : FnOk P w K mg base CX0 21 fIS dIS ["kinds", "lying", "places"] (spIS 4)) (GLO : FnOk P w K mg base CX0 1 fLO dLO ["kinds", "lying", "end"] spLO)
    (m_max : mg "max" = none) (m_min : mg "min" = none) (m_range : mg "range" = none) (m_len : mg "len" = none) (m_zip : mg "zip" = none) :
    FnOk P w K mg base CX0 30 f fd ["script"] (spLaw K) := by
  refine F.ok sc_law (fun vs H Q E h => ?_) (fun cdv A outer s H vs Q E hr h => ?_)
  · obtain ⟨a, ns, rfl, _⟩ := h
    rfl
  obtain ⟨a, ns, rfl, hS, h63, q⟩ := h
  have hu := hr.units0
  have bCE := xCE.b
  have kCE := xCE.k
  have mCE := xCE.m
  have bDE := xDE.b
  have kDE := xDE.k
  have mDE := xDE.m
  have bNX := xNX.b
  have kNX := xNX.k
  have mNX := xNX.m
  have bLY := xLY.b
  have kLY := xLY.k
  have mLY := xLY.m
  have bPC := xPC.b
  have kPC := xPC.k
  have mPC := xPC.m
  have bIS := xIS.b
  have kIS := xIS.k
  have mIS := xIS.m
  have bLO := xLO.b
  have kLO := xLO.k
  have mLO := xLO.m
  have h1 : 1 ≤ 29 := by decide
  have h2 : 2 ≤ 29 := by decide
  have h21 : 21 ≤ 29 := by decide
  refine ⟨_, (pss_cons (ps_for PassesOwn.never rfl (pi_range1 rfl m_range (pa_cons (pe_callB (call_max2 rfl) rfl m_max bt_max (pa_cons pe_int (pa_cons (pe_callB (call_min2 rfl) rfl m_min bt_min (pa_cons (pe_callB call_len_seq rfl m_len PySem.boot_len (pa_cons (pv 0) pa_nil)) (pa_cons pe_int pa_nil))) pa_nil))) pa_nil)) (pg_name (i := 1) sc_law.nd rfl (Or.inl rfl)) (pss_cons (ps_set (i := 2) sc_law.nd rfl (Or.inl rfl) (pe_call GDE (hr.mono h2) rfl mDE kDE bDE .nil pass0 (pa_cons (pe_call GCE (hr.mono h1) rfl mCE kCE bCE .nil pass0 (pa_cons (pv 0) (pa_cons (pv 1) pa_nil))) (pa_cons pe_int pa_nil))))
    (pss_cons (ps_set (i := 3) sc_law.nd rfl (Or.inl rfl) (pe_call GLY (hr.mono h2) rfl mLY kLY bLY .nil pass0 (pa_cons (pv 2) pa_nil)))
    (pss_cons (ps_set (i := 4) sc_law.nd rfl (Or.inl rfl) (pe_lst pa_nil))
    (pss_cons (ps_for PassesOwn.never rfl (pi_range1 rfl m_range (pa_cons (pe_op op_mod (pe_call GNX (hr.mono h1) rfl mNX kNX bNX .nil pass0 (pa_cons (pv 2) pa_nil)) pe_int) pa_nil)) (pg_name (i := 5) sc_law.nd rfl (Or.inl rfl)) (pss_one (ps_expr (pe_bm PySem.F.plainAttrs_list PySem.F.slot_list_append PySem.F.type_list_append mt_append (pv 4) (pa_cons (pe_tup (pa_cons pe_str (pa_cons (pe_op op_add pe_int (pe_op op_mod (pe_call GNX (hr.mono h1) rfl mNX kNX bNX .nil pass0 (pa_cons (pv 2) pa_nil)) pe_int)) (pa_cons (pe_ix ix_list (pe_lst (pa_cons pe_int (pa_cons pe_int (pa_cons pe_int (pa_cons pe_int pa_nil))))) (pe_op op_mod (pe_call GNX (hr.mono h1) rfl mNX kNX bNX .nil pass0 (pa_cons (pv 2) pa_nil)) pe_int) (fun _ _ => rfl)) pa_nil)))) pa_nil)))))
    (pss_cons (ps_asg (pe_call GPC (hr.mono h21) rfl mPC kPC bPC .nil pass0 (pa_cons (pv 4) (pa_cons (pv 3) pa_nil))) (pg_tup rfl (pgs_cons (pg_name (i := 6) sc_law.nd rfl (Or.inl rfl)) (pgs_cons (pg_name (i := 7) sc_law.nd rfl (Or.inl rfl)) pgs_nil))))
    (pss_cons (ps_set (i := 8) sc_law.nd rfl (Or.inl rfl) (pe_callB (call_maxL rfl) rfl m_max bt_max (pa_cons (pe_op op_cat (pe_lst (pa_cons pe_int pa_nil)) (pe_comp (dsc := defScope s_law) (N := ["script", "k", "deck", "lying", "kinds", "j", "places", "end", "base"]) (tgs := ["low", "high"]) (outs := []) (N' := ["low", "high"]) ⟨rfl, by decide +kernel, by decide +kernel, by decide +kernel, rfl, by decide +kernel, by decide +kernel, by decide +kernel⟩ (pi_list (pv 3)) (fun _ _ _ _ _ => (pg_tupK K (n := 2) rfl rfl (pgs_cons (pg_name (i := 0) (show (["low", "high"] : List Str).Nodup by decide +kernel) rfl (Or.inl rfl) (.inr rfl)) (pgs_cons (pg_name (i := 1) (show (["low", "high"] : List Str).Nodup by decide +kernel) rfl (Or.inl rfl) (.inr rfl)) pgs_nil)))) (tgt_tup (tgts_name (by decide) (tgts_name (by decide) tgts_nil tmono_nil) (tmono_name tmono_nil))) (fun _ _ _ _ _ => pcs_nil) (fun _ _ _ _ _ => (pv 1)))) pa_nil)))
    (pss_cons (ps_if (pt_cmpR op_isnotB (pe_call GIS (hr.mono h21) rfl mIS kIS bIS .nil pass0 (pa_cons (pv 4) (pa_cons (pv 3) (pa_cons (pv 6) pa_nil)))) pe_bl (nomark _)) (pss_one (ps_ret pe_bl)) pss_nil)
    (pss_cons (ps_if (pt_cmpR op_ne (pv 7) (pe_callB (call_maxL rfl) rfl m_max bt_max (pa_cons (pe_op op_cat (pe_lst (pa_cons (pv 8) pa_nil)) (pe_comp (dsc := defScope s_law) (N := ["script", "k", "deck", "lying", "kinds", "j", "places", "end", "base"]) (tgs := ["place", "kind"]) (outs := []) (N' := ["place", "kind"]) ⟨rfl, by decide +kernel, by decide +kernel, by decide +kernel, rfl, by decide +kernel, by decide +kernel, by decide +kernel⟩ (pi_zip (t1 := false) (t2 := false) rfl m_zip (pa_cons (pv 6) (pa_cons (pv 4) pa_nil))) (fun _ _ _ _ _ => (pg_tupK K (n := 2) rfl rfl (pgs_cons (pg_name (i := 0) (show (["place", "kind"] : List Str).Nodup by decide +kernel) rfl (Or.inl rfl) (.inr rfl)) (pgs_cons (pg_name (i := 1) (show (["place", "kind"] : List Str).Nodup by decide +kernel) rfl (Or.inl rfl) (.inr rfl)) pgs_nil)))) (tgt_tup (tgts_name (by decide) (tgts_name (by decide) tgts_nil tmono_nil) (tmono_name tmono_nil))) (fun _ _ _ _ _ => pcs_nil) (fun _ _ _ _ _ => (pe_op op_add (pv 0) (pe_ix (ix_tupK K) (pv 1) pe_int (fun _ _ => rfl)))))) pa_nil)) (nomark _)) (pss_one (ps_ret pe_bl)) pss_nil)
    (pss_one (ps_if (PW.pt (pw_and (pt_cmpR op_gt (pv 7) (pv 8) (nomark _)) (pw_and1 (pt_val (pe_call GLO (hr.mono h1) rfl mLO kLO bLO .nil pass0 (pa_cons (pv 4) (pa_cons (pv 3) (pa_cons (pe_op op_sub (pv 7) pe_int) pa_nil)))))))) (pss_one (ps_ret pe_bl)) pss_nil)))))))))))
    (pss_one (ps_ret pe_bl))), ?_⟩
  have hl : (ns.map V.int).length = ns.length := List.length_map _
  refine ⟨_, rfl, a, _, rfl, .inl hS, _, _, rfl, _, _, rfl, _, rfl, ?_, ?_, ?_⟩
  · rw [hl]; split <;> (try split) <;> omega
  · rw [hl]; split <;> (try split) <;> omega
  refine for_range (fun i σ H => ∃ x1 x2 x3 x4 x5 x6 x7 x8, σ = [some (.ref a), x1, x2, x3, x4, x5, x6, x7, x8] ∧ SqL K H a (ns.map V.int)) ⟨_, _, _, _, _, _, _, _, rfl, hS⟩ (fun i σ H hi hP => ?_) (fun σ H hP => q H)
  obtain ⟨x1, x2, x3, x4, x5, x6, x7, x8, rfl, hS⟩ := hP
  refine ⟨_, rfl, _, rfl, a, ns, _, rfl, hS, by omega, fun cell => ⟨cell, 30, rfl, by decide, by decide, fun p H1 hp e1 hP1 => ?_⟩⟩
  refine ⟨_, rfl, p, rfl, hP1, fun ly al lv H4 e4 hal0 halp hal hlv hLy hly39 hly3 hP4 => ?_⟩
  have eB : SameX p H H4 := (SameX.of e1).trans e4
  clear e1 e4 hP1 hal0
  refine ⟨lists3 0 (by decide), fun lk hlk => ?_⟩
  have s5 := same_new hlk (.lst [])
  have hlkp : lk ≠ p := hP4.ne hlk
  refine ⟨_, rfl, p, rfl, hP4.same s5, fun r H5 r0 r1 e5 hP5 => ⟨_, _, rfl, rfl, (by show (0 : Int) < 4; decide), ?_⟩⟩
  have g0 : (0 : Int) ≤ r % 4 := Int.emod_nonneg _ (by decide)
  have g1 : r % 4 < 4 := Int.emod_lt_of_pos _ (by decide)
  refine ⟨_, rfl, by omega, by omega, ?_⟩
  refine for_range (fun j σ H' => ∃ (rs : List (Int × Int)) (wv : List V) (x5 : Option V), σ = [some (.ref a), some (.int (0 + (i : Int))), some (.ref p), some (.ref al), some (.ref lk), x5, x6, x7, x8] ∧ SameX p H4 H' ∧ H' lk = some (.lst wv) ∧ IsDs (hid2 lk p H') (dtK (nmK rs)) wv ∧ DeckAt p H' ∧ rs.length = j ∧ ∀ r ∈ rs, 1 ≤ r.1 ∧ r.1 ≤ 8 ∧ 1 ≤ r.2 ∧ r.2 ≤ 8)
    ⟨[], [], _, rfl, (SameX.of s5).trans e5, e5.get hlkp upd_same, rfl, hP5, rfl, fun r hr => (nomatch hr)⟩ (fun j σ H' hj ⟨rs, wv, x5, es, eS, hL, hD, hP', hlen, hrs⟩ => ?_) (fun σ H' ⟨rs, wv, x5, es, eS, hL, hD, hP', hlen, hrs⟩ => ?_)
  · subst es
    refine ⟨_, rfl, .inl ⟨rfl, _, SqL.of hL⟩, _, rfl, p, rfl, hP', fun a1 H2 a10 a11 e2 hP2 => ⟨_, _, rfl, rfl, (by show (0 : Int) < 8; decide), _, _, rfl, rfl, lists3 4 (by decide), fun s1 hs1 => ⟨_, rfl, p, rfl, hP2.same (same_new hs1 _), fun a2 H3 a20 a21 e3 hP3 => ?_⟩⟩⟩
    have b0 : (0 : Int) ≤ a1 % 8 := Int.emod_nonneg _ (by decide)
    have b1 : a1 % 8 < 8 := Int.emod_lt_of_pos _ (by decide)
    have c0 : (0 : Int) ≤ a2 % 4 := Int.emod_nonneg _ (by decide)
    have c1 : a2 % 4 < 4 := Int.emod_lt_of_pos _ (by decide)
    obtain ⟨vz, hv2, hvm⟩ := atI_in (xs := [V.int 1, V.int 2, V.int 4, V.int 8]) c0 c1
    obtain ⟨m, rfl, hm⟩ := four_in hvm
    have e23 : SameX p H' H3 := (e2.trans (SameX.of (same_new hs1 _))).trans e3
    refine ⟨_, _, rfl, rfl, (by show (0 : Int) < 4; decide), s1, _, _, _, rfl, rfl, SqL.of (e3.get (hP2.ne hs1) upd_same), hv2, lists3 3 (by decide), fun t ht => ?_⟩
    have hL3 := e23.get hlkp hL
    have s4 := same_new ht (.tup [.str "number", .int (1 + a1 % 8), .int m])
    have tl : t ≠ lk := fun z => by rw [z, hL3] at ht; cases ht
    have tp : t ≠ p := hP3.ne ht
    have hlv' : wv.length = j := by rw [hD.len, dtK_len]; unfold nmK; rw [List.length_map, hlen]
    refine ⟨lk, _, _, rfl, rfl, s4 _ _ hL3, small1000 (by omega), ?_⟩
    have hDD : SameY lk p H' (upd (upd H3 t (.tup [.str "number", .int (1 + a1 % 8), .int m])) lk (.lst (wv ++ [.ref t]))) := by
      intro b o hb
      obtain ⟨n1, n2, hb⟩ := hid2_some hb
      exact hid2_of n1 n2 (by rw [upd_ne n1]; exact s4 _ _ (e23.get n2 hb))
    refine ⟨rs ++ [(1 + a1 % 8, m)], wv ++ [.ref t], _, rfl, ?_, upd_same, ?_, ?_, by rw [List.length_append, hlen]; rfl, fun r hr => ?_⟩
    · intro b o hb
      obtain ⟨n2, hb⟩ := hide_some hb
      have n1 : b ≠ lk := ne_of_none hb hlk
      rw [hide_ne n2, upd_ne n1]
      exact s4 _ _ (e23.get n2 (eS.get n2 hb))
    · have e : dtK (nmK (rs ++ [(1 + a1 % 8, m)])) = dtK (nmK rs) ++ [(Kd.num (1 + a1 % 8) m).dt] := by
        unfold nmK
        rw [List.map_append, dtK_map, List.map_append, ← dtK_map]
        rfl
      rw [e]
      exact IsDs.snoc (d := (Kd.num (1 + a1 % 8) m).dt) ⟨t, _, rfl, hid2_of tl tp (by rw [upd_ne tl]; exact upd_same), _, _, rfl, rfl, _, _, rfl, rfl, _, _, rfl, rfl, rfl⟩ (hD.same hDD)
    · obtain ⟨ms, q1, q2⟩ := hP3.same s4
      exact ⟨ms, by rw [upd_ne (fun z => hlkp z.symm)]; exact q1, q2⟩
    · rcases List.mem_append.mp hr with hr | hr
      · exact hrs r hr
      · rw [List.mem_singleton.mp hr]
        show 1 ≤ 1 + a1 % 8 ∧ 1 + a1 % 8 ≤ 8 ∧ 1 ≤ m ∧ m ≤ 8
        omega
  subst es
  have hal6 : H' al = some (.lst lv) := eS.get halp hal
  have hlv6 : IsDs H' (ly.map rdt) lv := (hlv.same eS).same (hide_sub _ _)
  have hW6 : IsDs H' (dtK (nmK rs)) wv := (hD.same (hide_sub _ _)).same (hide_sub _ _)
  have hN : NumOk rs := ⟨by omega, hrs⟩
  obtain ⟨hok, hd4, hR2⟩ := nm_ok hN
  have hS6 : SqL K H' a (ns.map V.int) := seq_x hS hp (eB.trans eS)
  have hll : lv.length = ly.length := by rw [hlv6.len, List.length_map]
  have hlw : wv.length = rs.length := by rw [hW6.len, dtK_len]; unfold nmK; rw [List.length_map]
  have hRs := hR2
  rw [rm_nm] at hRs
  have hB := dpP_ok hRs.1 hLy.1
  have hlp : ((dpP rs ly).map V.int).length = rs.length := by rw [List.length_map, hB.len]
  have hn3 := hN.1
  clear eB eS e5 hP4 hP5 s5 hlk hal hlv hD hP' hlen hrs
  refine ⟨_, rfl, _, rfl, lk, al, wv, lv, nmK rs, ly, rfl, hL, hW6, hok, hd4, by decide, hal6, hlv6, hR2, hLy, fun tp lp H9 e9 hlp0 htp hlp9 => ⟨tp, _, rfl, SqT.of htp, rfl, _, _, rfl, _, _, rfl, rfl, ?_⟩⟩
  rw [rm_nm] at hlp9
  refine ⟨lists3 1 (by decide), fun l0 hl0 => ?_⟩
  have s0 := same_new hl0 (.lst [.int 0])
  have e0 := e9.trans s0
  refine ⟨_, rfl, al, rfl, ⟨_, SqL.of (e0 _ _ hal6)⟩, ?_⟩
  refine comp_list (xs := lv) (fun i acc H2 => Same (upd H9 l0 (.lst [.int 0])) H2 ∧ acc = (ly.take i).map fun s => V.int s.2) (by omega) ⟨Same.refl _, rfl⟩ (fun i acc H2 hi ⟨e, ea⟩ => ⟨SqL.of (e _ _ (e0 _ _ hal6)), by rw [ea, List.length_map, List.length_take]; omega⟩) (fun i x acc H2 hx ⟨e, ea⟩ => ?_) (fun acc H1 ⟨e1, ea⟩ lc hlc => ?_)
  · obtain ⟨st, p, est, rfl, hp⟩ := rooms_at hlv6 hx
    refine ⟨p, _, rfl, SqT.of (e _ _ (e0 _ _ hp)), rfl, _, _, rfl, _, _, rfl, rfl, ?_⟩
    refine yesT ?_
    refine ⟨_, rfl, e, ?_⟩
    rw [ea, take_snoc est, List.map_append]
    rfl
  rw [hll, List.take_length] at ea
  have s1 := same_new hlc (.lst acc)
  have hacc : acc.length = ly.length := by rw [ea, List.length_map]
  refine ⟨l0, lc, _, _, rfl, rfl, s1 _ _ (e1 _ _ upd_same), upd_same, size5 (by show 1 + acc.length ≤ _; omega), fun lx hlx => ?_⟩
  have s2 := same_new hlx (.lst ([.int 0] ++ acc))
  refine ⟨lx, 0 :: ly.map (·.2), rfl, SqL.of (by rw [upd_same, ea, List.map_cons, List.map_map]; rfl), by simp, fun M hM hle => ?_⟩
  rw [base_is hM hle]
  have e2 : Same H9 (upd (upd H1 lc (.lst acc)) lx (.lst ([.int 0] ++ acc))) := ((s0.trans e1).trans s1).trans s2
  generalize upd (upd H1 lc (.lst acc)) lx (.lst ([.int 0] ++ acc)) = H2 at e2
  clear hM hle e0
  have e3 := e9.trans e2
  refine ⟨_, rfl, _, rfl, _, rfl, lk, al, lp, wv, lv, nmK rs, ly, dpP rs ly, rfl, e3 _ _ hL, hW6.same e3, hok, hd4, by decide, e3 _ _ hal6, hlv6.same e3, e2 _ _ hlp9, hR2, hLy, (by rw [rm_nm]; exact hB.len), (by rw [rm_nm]; exact hB.plc), fun H3 e4 => ⟨_, _, rfl, rfl, _, rfl, iteNS rfl ?_⟩⟩
  have e5 := e3.trans e4
  have hlp3 := e4 _ _ (e2 _ _ hlp9)
  refine ⟨_, rfl, _, rfl, lists3 1 (by decide), fun l6 hl6 => ?_⟩
  have s6 := same_new hl6 (.lst [.int (baseL ly)])
  have e6 := e5.trans s6
  have hlp6 := s6 _ _ hlp3
  refine ⟨_, rfl, _, rfl, lp, lk, rfl, ⟨_, SqL.of hlp6⟩, ⟨_, SqL.of (e6 _ _ hL)⟩, ?_⟩
  refine comp_zip (t1 := false) (t2 := false) (xs := (dpP rs ly).map V.int) (ys := wv) (fun i acc H4 => Same (upd H3 l6 (.lst [.int (baseL ly)])) H4 ∧ acc = ((endsP rs (dpP rs ly)).take i).map V.int) (by omega) (by omega) ⟨Same.refl _, rfl⟩
    (fun i acc H4 hi ⟨e, ea⟩ => ⟨SqL.of (e _ _ hlp6), SqL.of (e _ _ (e6 _ _ hL)), by rw [ea, List.length_map, List.length_take]; omega⟩) (fun i x y p acc H4 hx hy ⟨e, ea⟩ hpn => ?_) (fun acc2 H7 ⟨e7, ea2⟩ l9 hl9 => ?_)
  · obtain ⟨r, p2, er, rfl, hp2⟩ := nm_at hW6 hy
    have hi : i < rs.length := (List.getElem?_eq_some_iff.mp er).1
    rw [List.getElem?_map] at hx
    cases ep : (dpP rs ly)[i]? with
    | none => rw [ep] at hx; cases hx
    | some pl =>
      rw [ep] at hx
      cases hx
      have en : Same (upd H3 l6 (.lst [.int (baseL ly)])) (upd H4 p (.tup [.int pl, .ref p2])) := e.trans (same_new hpn _)
      refine ⟨p, _, rfl, SqT.of upd_same, rfl, _, _, rfl, _, _, rfl, rfl, ?_⟩
      refine yesT ?_
      refine ⟨_, rfl, _, rfl, p2, _, _, _, rfl, rfl, SqT.of (en _ _ (e6 _ _ hp2)), rfl, _, _, rfl, rfl, en, ?_⟩
      have ee : (endsP rs (dpP rs ly))[i]? = some (pl + r.1) := by
        unfold endsP
        rw [List.getElem?_map, List.getElem?_range hi]
        show some (pk (dpP rs ly) i + (rk rs i).1) = _
        rw [rk_at er]
        unfold pk
        rw [List.getD_eq_getElem?_getD, ep]
        rfl
      rw [ea, take_snoc ee, List.map_append]
      rfl
  have hle9 : (endsP rs (dpP rs ly)).length = rs.length := by unfold endsP; rw [List.length_map, List.length_range]
  rw [hlp, ← hle9, List.take_length] at ea2
  have s9 := same_new hl9 (.lst acc2)
  have hacc2 : acc2.length = rs.length := by rw [ea2, List.length_map, hle9]
  refine ⟨l6, l9, _, _, rfl, rfl, s9 _ _ (e7 _ _ upd_same), upd_same, size5 (by show 1 + acc2.length ≤ _; omega), fun lx2 hlx2 => ?_⟩
  have sx := same_new hlx2 (.lst ([.int (baseL ly)] ++ acc2))
  refine ⟨lx2, baseL ly :: endsP rs (dpP rs ly), rfl, SqL.of (by rw [upd_same, ea2, List.map_cons]; rfl), by simp, fun M hM hle2 => ⟨rfl, _, rfl, ?_⟩⟩
  have hM2   := ends_base hRs.1 hLy.1 hM hle2
  subst hM2
  rw [rm_nm]
  refine iteNS rfl ?_
  have e10 : Same H' (upd (upd H7 l9 (.lst acc2)) lx2 (.lst ([.int (baseL ly)] ++ acc2))) := ((e6.trans e7).trans s9).trans sx
  generalize upd (upd H7 l9 (.lst acc2)) lx2 (.lst ([.int (baseL ly)] ++ acc2)) = H10 at e10
  refine ⟨_, rfl, _, rfl, _, _, rfl, rfl, _, rfl, ?_⟩
  obtain ⟨hds, hbs⟩ := due_small hN hRs.1 hly39
  have hbn : 0 ≤ baseL ly := maxL_d _
  by_cases hcc : dueE rs ly > baseL ly
  · refine iteDT hcc ⟨_, rfl, _, rfl, _, rfl, _, _, rfl, rfl, lk, al, dueE rs ly - 1, wv, lv, rs, ly, rfl, e10 _ _ hL, hW6.same e10, e10 _ _ hal6, hlv6.same e10, hN, hLy.1, by omega, by omega, by omega, fun rs2 us hp2 hLd => ?_, fun H11 e11 => ⟨false, rfl, iteF ?_⟩⟩
    · have := laid_due hLd hp2 hRs.1 (by omega)
      omega
    · exact ⟨_, _, _, _, _, _, _, _, rfl, sql_same hS6 (e10.trans e11)⟩
  · exact iteND hcc (iteF ⟨_, _, _, _, _, _, _, _, rfl, sql_same hS6 e10⟩)
end

theorem all_mk {l : PySem.W.OpenLaw} {w : World} {K : PySem.W.Frag} {h : Heap} {mg : Str → Option Value} {fa f0 f1 f2 f3 f4 f5 f6 f7 f8 f9 f10 f11 f12 f13 f14 f15 f16 f17 f18 f19 f20 f21 f22 f23 f24 f25 f26 f27 : Addr} (X : K.In h) (G : h.Ns mainGlobals mg) (hfa : mg "law" = some (.ref fa))
    {od0 an0 od1 an1 od2 an2 od3 an3 od4 an4 od5 an5 od6 an6 od7 an7 od8 an8 od9 an9 od10 an10 od11 an11 od12 an12 od13 an13 od14 an14 od15 an15 od16 an16 od17 an17 od18 an18 od19 an19 od20 an20 od21 an21 od22 an22 od23 an23 od24 an24 od25 an25 od26 an26 od27 an27 : Option Addr} {sl0 sl1 sl2 sl3 sl4 sl5 sl6 sl7 sl8 sl9 sl10 sl11 sl12 sl13 sl14 sl15 sl16 sl17 sl18 sl19 sl20 sl21 sl22 sl23 sl24 sl25 sl26 sl27 : Array (Option Value)} {oc0 kV0 dc0 pm0 cd0 ct0 oc1 kV1 dc1 pm1 cd1 ct1 oc2 kV2 dc2 pm2 cd2 ct2 oc3 kV3 dc3 pm3 cd3 ct3 oc4 kV4 dc4 pm4 cd4 ct4 oc5 kV5 dc5 pm5 cd5 ct5 oc6 kV6 dc6 pm6 cd6 ct6 oc7 kV7 dc7 pm7 cd7 ct7 oc8 kV8 dc8 pm8 cd8 ct8 oc9 kV9 dc9 pm9 cd9 ct9 oc10 kV10 dc10 pm10 cd10 ct10 oc11 kV11 dc11 pm11 cd11 ct11 oc12 kV12 dc12 pm12 cd12 ct12 oc13 kV13 dc13 pm13 cd13 ct13 oc14 kV14 dc14 pm14 cd14 ct14 oc15 kV15 dc15 pm15 cd15 ct15 oc16 kV16 dc16 pm16 cd16 ct16 oc17 kV17 dc17 pm17 cd17 ct17 oc18 kV18 dc18 pm18 cd18 ct18 oc19 kV19 dc19 pm19 cd19 ct19 oc20 kV20 dc20 pm20 cd20 ct20 oc21 kV21 dc21 pm21 cd21 ct21 oc22 kV22 dc22 pm22 cd22 ct22 oc23 kV23 dc23 pm23 cd23 ct23 oc24 kV24 dc24 pm24 cd24 ct24 oc25 kV25 dc25 pm25 cd25 ct25 oc26 kV26 dc26 pm26 cd26 ct26 oc27 kV27 dc27 pm27 cd27 ct27 : Value}
    (a0 : PySem.W.nsIn K mainGlobals "is_whole" = some (some (.ref f0))) (l0 : K.lookup f0 = some ⟨oc0, od0, .func (PySem.W.fnOf "is_whole" "is_whole" (defArgs s_is_whole) (defBody s_is_whole) (defScope s_is_whole) .none kV0 dc0 pm0 an0 cd0 ct0), sl0⟩) (c0 : PySem.W.codeIn K cd0 "is_whole" = true) (k0 : PySem.W.keepIn K (.ref f0) = true)
    (a1 : PySem.W.nsIn K mainGlobals "rounded_up" = some (some (.ref f1))) (l1 : K.lookup f1 = some ⟨oc1, od1, .func (PySem.W.fnOf "rounded_up" "rounded_up" (defArgs s_rounded_up) (defBody s_rounded_up) (defScope s_rounded_up) .none kV1 dc1 pm1 an1 cd1 ct1), sl1⟩) (c1 : PySem.W.codeIn K cd1 "rounded_up" = true) (k1 : PySem.W.keepIn K (.ref f1) = true)
    (a2 : PySem.W.nsIn K mainGlobals "room_of" = some (some (.ref f2))) (l2 : K.lookup f2 = some ⟨oc2, od2, .func (PySem.W.fnOf "room_of" "room_of" (defArgs s_room_of) (defBody s_room_of) (defScope s_room_of) .none kV2 dc2 pm2 an2 cd2 ct2), sl2⟩) (c2 : PySem.W.codeIn K cd2 "room_of" = true) (k2 : PySem.W.keepIn K (.ref f2) = true)
    (a3 : PySem.W.nsIn K mainGlobals "rooms_of" = some (some (.ref f3))) (l3 : K.lookup f3 = some ⟨oc3, od3, .func (PySem.W.fnOf "rooms_of" "rooms_of" (defArgs s_rooms_of) (defBody s_rooms_of) (defScope s_rooms_of) .none kV3 dc3 pm3 an3 cd3 ct3), sl3⟩) (c3 : PySem.W.codeIn K cd3 "rooms_of" = true) (k3 : PySem.W.keepIn K (.ref f3) = true)
    (a4 : PySem.W.nsIn K mainGlobals "greatest_multiple" = some (some (.ref f4))) (l4 : K.lookup f4 = some ⟨oc4, od4, .func (PySem.W.fnOf "greatest_multiple" "greatest_multiple" (defArgs s_greatest_multiple) (defBody s_greatest_multiple) (defScope s_greatest_multiple) .none kV4 dc4 pm4 an4 cd4 ct4), sl4⟩) (c4 : PySem.W.codeIn K cd4 "greatest_multiple" = true) (k4 : PySem.W.keepIn K (.ref f4) = true)
    (a5 : PySem.W.nsIn K mainGlobals "step_of" = some (some (.ref f5))) (l5 : K.lookup f5 = some ⟨oc5, od5, .func (PySem.W.fnOf "step_of" "step_of" (defArgs s_step_of) (defBody s_step_of) (defScope s_step_of) .none kV5 dc5 pm5 an5 cd5 ct5), sl5⟩) (c5 : PySem.W.codeIn K cd5 "step_of" = true) (k5 : PySem.W.keepIn K (.ref f5) = true)
    (a6 : PySem.W.nsIn K mainGlobals "room_of_row" = some (some (.ref f6))) (l6 : K.lookup f6 = some ⟨oc6, od6, .func (PySem.W.fnOf "room_of_row" "room_of_row" (defArgs s_room_of_row) (defBody s_room_of_row) (defScope s_room_of_row) .none kV6 dc6 pm6 an6 cd6 ct6), sl6⟩) (c6 : PySem.W.codeIn K cd6 "room_of_row" = true) (k6 : PySem.W.keepIn K (.ref f6) = true)
    (a7 : PySem.W.nsIn K mainGlobals "room_of_record" = some (some (.ref f7))) (l7 : K.lookup f7 = some ⟨oc7, od7, .func (PySem.W.fnOf "room_of_record" "room_of_record" (defArgs s_room_of_record) (defBody s_room_of_record) (defScope s_room_of_record) .none kV7 dc7 pm7 an7 cd7 ct7), sl7⟩) (c7 : PySem.W.codeIn K cd7 "room_of_record" = true) (k7 : PySem.W.keepIn K (.ref f7) = true)
    (a8 : PySem.W.nsIn K mainGlobals "places_behind" = some (some (.ref f8))) (l8 : K.lookup f8 = some ⟨oc8, od8, .func (PySem.W.fnOf "places_behind" "places_behind" (defArgs s_places_behind) (defBody s_places_behind) (defScope s_places_behind) .none kV8 dc8 pm8 an8 cd8 ct8), sl8⟩) (c8 : PySem.W.codeIn K cd8 "places_behind" = true) (k8 : PySem.W.keepIn K (.ref f8) = true)
    (a9 : PySem.W.nsIn K mainGlobals "room_of_choice" = some (some (.ref f9))) (l9 : K.lookup f9 = some ⟨oc9, od9, .func (PySem.W.fnOf "room_of_choice" "room_of_choice" (defArgs s_room_of_choice) (defBody s_room_of_choice) (defScope s_room_of_choice) .none kV9 dc9 pm9 an9 cd9 ct9), sl9⟩) (c9 : PySem.W.codeIn K cd9 "room_of_choice" = true) (k9 : PySem.W.keepIn K (.ref f9) = true)
    (a10 : PySem.W.nsIn K mainGlobals "chosen_at" = some (some (.ref f10))) (l10 : K.lookup f10 = some ⟨oc10, od10, .func (PySem.W.fnOf "chosen_at" "chosen_at" (defArgs s_chosen_at) (defBody s_chosen_at) (defScope s_chosen_at) .none kV10 dc10 pm10 an10 cd10 ct10), sl10⟩) (c10 : PySem.W.codeIn K cd10 "chosen_at" = true) (k10 : PySem.W.keepIn K (.ref f10) = true)
    (a11 : PySem.W.nsIn K mainGlobals "placed_closely" = some (some (.ref f11))) (l11 : K.lookup f11 = some ⟨oc11, od11, .func (PySem.W.fnOf "placed_closely" "placed_closely" (defArgs s_placed_closely) (defBody s_placed_closely) (defScope s_placed_closely) .none kV11 dc11 pm11 an11 cd11 ct11), sl11⟩) (c11 : PySem.W.codeIn K cd11 "placed_closely" = true) (k11 : PySem.W.keepIn K (.ref f11) = true)
    (a12 : PySem.W.nsIn K mainGlobals "is_placing" = some (some (.ref f12))) (l12 : K.lookup f12 = some ⟨oc12, od12, .func (PySem.W.fnOf "is_placing" "is_placing" (defArgs s_is_placing) (defBody s_is_placing) (defScope s_is_placing) .none kV12 dc12 pm12 an12 cd12 ct12), sl12⟩) (c12 : PySem.W.codeIn K cd12 "is_placing" = true) (k12 : PySem.W.keepIn K (.ref f12) = true)
    (a13 : PySem.W.nsIn K mainGlobals "is_place" = some (some (.ref f13))) (l13 : K.lookup f13 = some ⟨oc13, od13, .func (PySem.W.fnOf "is_place" "is_place" (defArgs s_is_place) (defBody s_is_place) (defScope s_is_place) .none kV13 dc13 pm13 an13 cd13 ct13), sl13⟩) (c13 : PySem.W.codeIn K cd13 "is_place" = true) (k13 : PySem.W.keepIn K (.ref f13) = true)
    (a14 : PySem.W.nsIn K mainGlobals "share_no_byte" = some (some (.ref f14))) (l14 : K.lookup f14 = some ⟨oc14, od14, .func (PySem.W.fnOf "share_no_byte" "share_no_byte" (defArgs s_share_no_byte) (defBody s_share_no_byte) (defScope s_share_no_byte) .none kV14 dc14 pm14 an14 cd14 ct14), sl14⟩) (c14 : PySem.W.codeIn K cd14 "share_no_byte" = true) (k14 : PySem.W.keepIn K (.ref f14) = true)
    (a15 : PySem.W.nsIn K mainGlobals "stretches_at" = some (some (.ref f15))) (l15 : K.lookup f15 = some ⟨oc15, od15, .func (PySem.W.fnOf "stretches_at" "stretches_at" (defArgs s_stretches_at) (defBody s_stretches_at) (defScope s_stretches_at) .none kV15 dc15 pm15 an15 cd15 ct15), sl15⟩) (c15 : PySem.W.codeIn K cd15 "stretches_at" = true) (k15 : PySem.W.keepIn K (.ref f15) = true)
    (a16 : PySem.W.nsIn K mainGlobals "greatest_end" = some (some (.ref f16))) (l16 : K.lookup f16 = some ⟨oc16, od16, .func (PySem.W.fnOf "greatest_end" "greatest_end" (defArgs s_greatest_end) (defBody s_greatest_end) (defScope s_greatest_end) .none kV16 dc16 pm16 an16 cd16 ct16), sl16⟩) (c16 : PySem.W.codeIn K cd16 "greatest_end" = true) (k16 : PySem.W.keepIn K (.ref f16) = true)
    (a17 : PySem.W.nsIn K mainGlobals "closest_places" = some (some (.ref f17))) (l17 : K.lookup f17 = some ⟨oc17, od17, .func (PySem.W.fnOf "closest_places" "closest_places" (defArgs s_closest_places) (defBody s_closest_places) (defScope s_closest_places) .none kV17 dc17 pm17 an17 cd17 ct17), sl17⟩) (c17 : PySem.W.codeIn K cd17 "closest_places" = true) (k17 : PySem.W.keepIn K (.ref f17) = true)
    (a18 : PySem.W.nsIn K mainGlobals "closest_way" = some (some (.ref f18))) (l18 : K.lookup f18 = some ⟨oc18, od18, .func (PySem.W.fnOf "closest_way" "closest_way" (defArgs s_closest_way) (defBody s_closest_way) (defScope s_closest_way) .none kV18 dc18 pm18 an18 cd18 ct18), sl18⟩) (c18 : PySem.W.codeIn K cd18 "closest_way" = true) (k18 : PySem.W.keepIn K (.ref f18) = true)
    (a19 : PySem.W.nsIn K mainGlobals "places_back_from" = some (some (.ref f19))) (l19 : K.lookup f19 = some ⟨oc19, od19, .func (PySem.W.fnOf "places_back_from" "places_back_from" (defArgs s_places_back_from) (defBody s_places_back_from) (defScope s_places_back_from) .none kV19 dc19 pm19 an19 cd19 ct19), sl19⟩) (c19 : PySem.W.codeIn K cd19 "places_back_from" = true) (k19 : PySem.W.keepIn K (.ref f19) = true)
    (a20 : PySem.W.nsIn K mainGlobals "free_place" = some (some (.ref f20))) (l20 : K.lookup f20 = some ⟨oc20, od20, .func (PySem.W.fnOf "free_place" "free_place" (defArgs s_free_place) (defBody s_free_place) (defScope s_free_place) .none kV20 dc20 pm20 an20 cd20 ct20), sl20⟩) (c20 : PySem.W.codeIn K cd20 "free_place" = true) (k20 : PySem.W.keepIn K (.ref f20) = true)
    (a21 : PySem.W.nsIn K mainGlobals "_law_cell_at" = some (some (.ref f21))) (l21 : K.lookup f21 = some ⟨oc21, od21, .func (PySem.W.fnOf "_law_cell_at" "_law_cell_at" (defArgs s_law_cell_at) (defBody s_law_cell_at) (defScope s_law_cell_at) .none kV21 dc21 pm21 an21 cd21 ct21), sl21⟩) (c21 : PySem.W.codeIn K cd21 "_law_cell_at" = true) (k21 : PySem.W.keepIn K (.ref f21) = true)
    (a22 : PySem.W.nsIn K mainGlobals "_law_stir" = some (some (.ref f22))) (l22 : K.lookup f22 = some ⟨oc22, od22, .func (PySem.W.fnOf "_law_stir" "_law_stir" (defArgs s_law_stir) (defBody s_law_stir) (defScope s_law_stir) .none kV22 dc22 pm22 an22 cd22 ct22), sl22⟩) (c22 : PySem.W.codeIn K cd22 "_law_stir" = true) (k22 : PySem.W.keepIn K (.ref f22) = true)
    (a23 : PySem.W.nsIn K mainGlobals "_law_deck" = some (some (.ref f23))) (l23 : K.lookup f23 = some ⟨oc23, od23, .func (PySem.W.fnOf "_law_deck" "_law_deck" (defArgs s_law_deck) (defBody s_law_deck) (defScope s_law_deck) .none kV23 dc23 pm23 an23 cd23 ct23), sl23⟩) (c23 : PySem.W.codeIn K cd23 "_law_deck" = true) (k23 : PySem.W.keepIn K (.ref f23) = true)
    (a24 : PySem.W.nsIn K mainGlobals "_law_next" = some (some (.ref f24))) (l24 : K.lookup f24 = some ⟨oc24, od24, .func (PySem.W.fnOf "_law_next" "_law_next" (defArgs s_law_next) (defBody s_law_next) (defScope s_law_next) .none kV24 dc24 pm24 an24 cd24 ct24), sl24⟩) (c24 : PySem.W.codeIn K cd24 "_law_next" = true) (k24 : PySem.W.keepIn K (.ref f24) = true)
    (a25 : PySem.W.nsIn K mainGlobals "_law_lying" = some (some (.ref f25))) (l25 : K.lookup f25 = some ⟨oc25, od25, .func (PySem.W.fnOf "_law_lying" "_law_lying" (defArgs s_law_lying) (defBody s_law_lying) (defScope s_law_lying) .none kV25 dc25 pm25 an25 cd25 ct25), sl25⟩) (c25 : PySem.W.codeIn K cd25 "_law_lying" = true) (k25 : PySem.W.keepIn K (.ref f25) = true)
    (a26 : PySem.W.nsIn K mainGlobals "_law_lower" = some (some (.ref f26))) (l26 : K.lookup f26 = some ⟨oc26, od26, .func (PySem.W.fnOf "_law_lower" "_law_lower" (defArgs s_law_lower) (defBody s_law_lower) (defScope s_law_lower) .none kV26 dc26 pm26 an26 cd26 ct26), sl26⟩) (c26 : PySem.W.codeIn K cd26 "_law_lower" = true) (k26 : PySem.W.keepIn K (.ref f26) = true)
    (a27 : PySem.W.nsIn K mainGlobals "law" = some (some (.ref f27))) (l27 : K.lookup f27 = some ⟨oc27, od27, .func (PySem.W.fnOf "law" "law" (defArgs s_law) (defBody s_law) (defScope s_law) .none kV27 dc27 pm27 an27 cd27 ct27), sl27⟩) (c27 : PySem.W.codeIn K cd27 "law" = true) (k27 : PySem.W.keepIn K (.ref f27) = true)
    (z0 : PySem.W.nsIn K mainGlobals "isinstance" = some none)
    (z1 : PySem.W.nsIn K mainGlobals "int" = some none)
    (z2 : PySem.W.nsIn K mainGlobals "bool" = some none)
    (z3 : PySem.W.nsIn K mainGlobals "list" = some none)
    (z4 : PySem.W.nsIn K mainGlobals "len" = some none)
    (z5 : PySem.W.nsIn K mainGlobals "all" = some none)
    (z6 : PySem.W.nsIn K mainGlobals "max" = some none)
    (z7 : PySem.W.nsIn K mainGlobals "min" = some none)
    (z8 : PySem.W.nsIn K mainGlobals "range" = some none)
    (z9 : PySem.W.nsIn K mainGlobals "zip" = some none)
    (z10 : PySem.W.nsIn K mainGlobals "enumerate" = some none)
    (z11 : PySem.W.nsIn K mainGlobals "sorted" = some none)
    : ∃ fd : FuncData, (∀ (s : Shared) (v : Value), BindsTo s fd ⟨[v], []⟩ [("script", v)]) ∧ ∀ base : Heap, K.In base → base.Ns mainGlobals mg → FnOk l.prog w K mg base CX0 30 fa fd ["script"] (spLaw K) := by
  have e := hfa.symm.trans (PySem.W.mg_of X G a27)
  cases e
  have x_is_whole : Fx K mg "is_whole" s_is_whole ["thing"] _ _ := ⟨fun_mk (st := s_is_whole) l0 c0 k0, (fun_mk (st := s_is_whole) l0 c0 k0).binds (ps := ["thing"]) fun _ _ _ _ _ _ us hl => match us, hl with | [_], _ => rfl, k0, PySem.W.mg_of X G a0⟩
  have x_rounded_up : Fx K mg "rounded_up" s_rounded_up ["number", "m"] _ _ := ⟨fun_mk (st := s_rounded_up) l1 c1 k1, (fun_mk (st := s_rounded_up) l1 c1 k1).binds (ps := ["number", "m"]) fun _ _ _ _ _ _ us hl => match us, hl with | [_, _], _ => rfl, k1, PySem.W.mg_of X G a1⟩
  have x_room_of : Fx K mg "room_of" s_room_of ["kind"] _ _ := ⟨fun_mk (st := s_room_of) l2 c2 k2, (fun_mk (st := s_room_of) l2 c2 k2).binds (ps := ["kind"]) fun _ _ _ _ _ _ us hl => match us, hl with | [_], _ => rfl, k2, PySem.W.mg_of X G a2⟩
  have x_rooms_of : Fx K mg "rooms_of" s_rooms_of ["kinds"] _ _ := ⟨fun_mk (st := s_rooms_of) l3 c3 k3, (fun_mk (st := s_rooms_of) l3 c3 k3).binds (ps := ["kinds"]) fun _ _ _ _ _ _ us hl => match us, hl with | [_], _ => rfl, k3, PySem.W.mg_of X G a3⟩
  have x_greatest_multiple : Fx K mg "greatest_multiple" s_greatest_multiple ["rooms"] _ _ := ⟨fun_mk (st := s_greatest_multiple) l4 c4 k4, (fun_mk (st := s_greatest_multiple) l4 c4 k4).binds (ps := ["rooms"]) fun _ _ _ _ _ _ us hl => match us, hl with | [_], _ => rfl, k4, PySem.W.mg_of X G a4⟩
  have x_step_of : Fx K mg "step_of" s_step_of ["room"] _ _ := ⟨fun_mk (st := s_step_of) l5 c5 k5, (fun_mk (st := s_step_of) l5 c5 k5).binds (ps := ["room"]) fun _ _ _ _ _ _ us hl => match us, hl with | [_], _ => rfl, k5, PySem.W.mg_of X G a5⟩
  have x_room_of_row : Fx K mg "room_of_row" s_room_of_row ["kind", "n"] _ _ := ⟨fun_mk (st := s_room_of_row) l6 c6 k6, (fun_mk (st := s_room_of_row) l6 c6 k6).binds (ps := ["kind", "n"]) fun _ _ _ _ _ _ us hl => match us, hl with | [_, _], _ => rfl, k6, PySem.W.mg_of X G a6⟩
  have x_room_of_record : Fx K mg "room_of_record" s_room_of_record ["kinds"] _ _ := ⟨fun_mk (st := s_room_of_record) l7 c7 k7, (fun_mk (st := s_room_of_record) l7 c7 k7).binds (ps := ["kinds"]) fun _ _ _ _ _ _ us hl => match us, hl with | [_], _ => rfl, k7, PySem.W.mg_of X G a7⟩
  have x_places_behind : Fx K mg "places_behind" s_places_behind ["rooms"] _ _ := ⟨fun_mk (st := s_places_behind) l8 c8 k8, (fun_mk (st := s_places_behind) l8 c8 k8).binds (ps := ["rooms"]) fun _ _ _ _ _ _ us hl => match us, hl with | [_], _ => rfl, k8, PySem.W.mg_of X G a8⟩
  have x_room_of_choice : Fx K mg "room_of_choice" s_room_of_choice ["kinds"] _ _ := ⟨fun_mk (st := s_room_of_choice) l9 c9 k9, (fun_mk (st := s_room_of_choice) l9 c9 k9).binds (ps := ["kinds"]) fun _ _ _ _ _ _ us hl => match us, hl with | [_], _ => rfl, k9, PySem.W.mg_of X G a9⟩
  have x_chosen_at : Fx K mg "chosen_at" s_chosen_at ["multiple"] _ _ := ⟨fun_mk (st := s_chosen_at) l10 c10 k10, (fun_mk (st := s_chosen_at) l10 c10 k10).binds (ps := ["multiple"]) fun _ _ _ _ _ _ us hl => match us, hl with | [_], _ => rfl, k10, PySem.W.mg_of X G a10⟩
  have x_placed_closely : Fx K mg "placed_closely" s_placed_closely ["kinds", "lying"] _ _ := ⟨fun_mk (st := s_placed_closely) l11 c11 k11, (fun_mk (st := s_placed_closely) l11 c11 k11).binds (ps := ["kinds", "lying"]) fun _ _ _ _ _ _ us hl => match us, hl with | [_, _], _ => rfl, k11, PySem.W.mg_of X G a11⟩
  have x_is_placing : Fx K mg "is_placing" s_is_placing ["kinds", "lying", "places"] _ _ := ⟨fun_mk (st := s_is_placing) l12 c12 k12, (fun_mk (st := s_is_placing) l12 c12 k12).binds (ps := ["kinds", "lying", "places"]) fun _ _ _ _ _ _ us hl => match us, hl with | [_, _, _], _ => rfl, k12, PySem.W.mg_of X G a12⟩
  have x_is_place : Fx K mg "is_place" s_is_place ["thing", "multiple"] _ _ := ⟨fun_mk (st := s_is_place) l13 c13 k13, (fun_mk (st := s_is_place) l13 c13 k13).binds (ps := ["thing", "multiple"]) fun _ _ _ _ _ _ us hl => match us, hl with | [_, _], _ => rfl, k13, PySem.W.mg_of X G a13⟩
  have x_share_no_byte : Fx K mg "share_no_byte" s_share_no_byte ["rising"] _ _ := ⟨fun_mk (st := s_share_no_byte) l14 c14 k14, (fun_mk (st := s_share_no_byte) l14 c14 k14).binds (ps := ["rising"]) fun _ _ _ _ _ _ us hl => match us, hl with | [_], _ => rfl, k14, PySem.W.mg_of X G a14⟩
  have x_stretches_at : Fx K mg "stretches_at" s_stretches_at ["rooms", "places"] _ _ := ⟨fun_mk (st := s_stretches_at) l15 c15 k15, (fun_mk (st := s_stretches_at) l15 c15 k15).binds (ps := ["rooms", "places"]) fun _ _ _ _ _ _ us hl => match us, hl with | [_, _], _ => rfl, k15, PySem.W.mg_of X G a15⟩
  have x_greatest_end : Fx K mg "greatest_end" s_greatest_end ["stretches"] _ _ := ⟨fun_mk (st := s_greatest_end) l16 c16 k16, (fun_mk (st := s_greatest_end) l16 c16 k16).binds (ps := ["stretches"]) fun _ _ _ _ _ _ us hl => match us, hl with | [_], _ => rfl, k16, PySem.W.mg_of X G a16⟩
  have x_closest_places : Fx K mg "closest_places" s_closest_places ["rooms", "lying"] _ _ := ⟨fun_mk (st := s_closest_places) l17 c17 k17, (fun_mk (st := s_closest_places) l17 c17 k17).binds (ps := ["rooms", "lying"]) fun _ _ _ _ _ _ us hl => match us, hl with | [_, _], _ => rfl, k17, PySem.W.mg_of X G a17⟩
  have x_closest_way : Fx K mg "closest_way" s_closest_way ["group", "ways", "rooms", "lying"] _ _ := ⟨fun_mk (st := s_closest_way) l18 c18 k18, (fun_mk (st := s_closest_way) l18 c18 k18).binds (ps := ["group", "ways", "rooms", "lying"]) fun _ _ _ _ _ _ us hl => match us, hl with | [_, _, _, _], _ => rfl, k18, PySem.W.mg_of X G a18⟩
  have x_places_back_from : Fx K mg "places_back_from" s_places_back_from ["ways", "how_many"] _ _ := ⟨fun_mk (st := s_places_back_from) l19 c19 k19, (fun_mk (st := s_places_back_from) l19 c19 k19).binds (ps := ["ways", "how_many"]) fun _ _ _ _ _ _ us hl => match us, hl with | [_, _], _ => rfl, k19, PySem.W.mg_of X G a19⟩
  have x_free_place : Fx K mg "free_place" s_free_place ["begin", "room", "lying"] _ _ := ⟨fun_mk (st := s_free_place) l20 c20 k20, (fun_mk (st := s_free_place) l20 c20 k20).binds (ps := ["begin", "room", "lying"]) fun _ _ _ _ _ _ us hl => match us, hl with | [_, _, _], _ => rfl, k20, PySem.W.mg_of X G a20⟩
  have x__law_cell_at : Fx K mg "_law_cell_at" s_law_cell_at ["script", "k"] _ _ := ⟨fun_mk (st := s_law_cell_at) l21 c21 k21, (fun_mk (st := s_law_cell_at) l21 c21 k21).binds (ps := ["script", "k"]) fun _ _ _ _ _ _ us hl => match us, hl with | [_, _], _ => rfl, k21, PySem.W.mg_of X G a21⟩
  have x__law_stir : Fx K mg "_law_stir" s_law_stir ["cell", "k"] _ _ := ⟨fun_mk (st := s_law_stir) l22 c22 k22, (fun_mk (st := s_law_stir) l22 c22 k22).binds (ps := ["cell", "k"]) fun _ _ _ _ _ _ us hl => match us, hl with | [_, _], _ => rfl, k22, PySem.W.mg_of X G a22⟩
  have x__law_deck : Fx K mg "_law_deck" s_law_deck ["cell", "many"] _ _ := ⟨fun_mk (st := s_law_deck) l23 c23 k23, (fun_mk (st := s_law_deck) l23 c23 k23).binds (ps := ["cell", "many"]) fun _ _ _ _ _ _ us hl => match us, hl with | [_, _], _ => rfl, k23, PySem.W.mg_of X G a23⟩
  have x__law_next : Fx K mg "_law_next" s_law_next ["deck"] _ _ := ⟨fun_mk (st := s_law_next) l24 c24 k24, (fun_mk (st := s_law_next) l24 c24 k24).binds (ps := ["deck"]) fun _ _ _ _ _ _ us hl => match us, hl with | [_], _ => rfl, k24, PySem.W.mg_of X G a24⟩
  have x__law_lying : Fx K mg "_law_lying" s_law_lying ["deck"] _ _ := ⟨fun_mk (st := s_law_lying) l25 c25 k25, (fun_mk (st := s_law_lying) l25 c25 k25).binds (ps := ["deck"]) fun _ _ _ _ _ _ us hl => match us, hl with | [_], _ => rfl, k25, PySem.W.mg_of X G a25⟩
  have x__law_lower : Fx K mg "_law_lower" s_law_lower ["kinds", "lying", "end"] _ _ := ⟨fun_mk (st := s_law_lower) l26 c26 k26, (fun_mk (st := s_law_lower) l26 c26 k26).binds (ps := ["kinds", "lying", "end"]) fun _ _ _ _ _ _ us hl => match us, hl with | [_, _, _], _ => rfl, k26, PySem.W.mg_of X G a26⟩
  have x_law : Fx K mg "law" s_law ["script"] _ _ := ⟨fun_mk (st := s_law) l27 c27 k27, (fun_mk (st := s_law) l27 c27 k27).binds (ps := ["script"]) fun _ _ _ _ _ _ us hl => match us, hl with | [_], _ => rfl, k27, PySem.W.mg_of X G a27⟩
  have m_isinstance := PySem.W.mg_none_of X G z0
  have m_int := PySem.W.mg_none_of X G z1
  have m_bool := PySem.W.mg_none_of X G z2
  have m_list := PySem.W.mg_none_of X G z3
  have m_len := PySem.W.mg_none_of X G z4
  have m_all := PySem.W.mg_none_of X G z5
  have m_max := PySem.W.mg_none_of X G z6
  have m_min := PySem.W.mg_none_of X G z7
  have m_range := PySem.W.mg_none_of X G z8
  have m_zip := PySem.W.mg_none_of X G z9
  have m_enumerate := PySem.W.mg_none_of X G z10
  have m_sorted := PySem.W.mg_none_of X G z11
  refine ⟨PySem.W.fnOf "law" "law" (defArgs s_law) (defBody s_law) (defScope s_law) .none kV27 dc27 pm27 an27 cd27 ct27, fun s v => .of_eq rfl, fun base _ _ => ?_⟩
  exact have GRO : ∀ n, FnOk l.prog w K mg base CX0 (2 + 3 * n) _ _ ["kind"] (spRO n) := fun n => ro_all x_rounded_up x_room_of x_rooms_of x_greatest_multiple x_step_of x_room_of_row x_room_of_record x_places_behind x_room_of_choice x_chosen_at m_max m_zip n
    have GPC : FnOk l.prog w K mg base CX0 21 _ _ ["kinds", "lying"] (spPC 4) := ok_pc x_placed_closely.F x_rooms_of x_closest_places x_stretches_at x_greatest_end (ok_rs x_rooms_of.F (GRO 4) x_room_of.b x_room_of.k x_room_of.m) (ok_cc x_closest_places.F x_closest_way x_places_back_from (ok_cw x_closest_way.F x_free_place (ok_fp x_free_place.F x_rounded_up (ok_ru x_rounded_up.F)) m_enumerate m_min) (ok_bf x_places_back_from.F m_len) m_len m_range) (ok_sa x_stretches_at.F m_zip) (ok_ge x_greatest_end.F m_max) (by decide)
    have GIS := ok_is (P := l.prog) (w := w) (base := base) x_is_placing.F x_rooms_of x_is_place x_share_no_byte x_stretches_at (ok_rs x_rooms_of.F (GRO 4) x_room_of.b x_room_of.k x_room_of.m) (ok_il x_is_place.F x_is_whole (ok_iw x_is_whole.F m_isinstance m_int m_bool)) (ok_sn x_share_no_byte.F m_all m_zip) (ok_sa x_stretches_at.F m_zip) (by decide) m_isinstance m_list m_len m_all m_zip m_sorted
    ok_law x_law.F x__law_cell_at x__law_deck x__law_next x__law_lying x_placed_closely x_is_placing x__law_lower (ok_ce x__law_cell_at.F m_len) (ok_de x__law_deck.F (ok_st x__law_stir.F) x__law_stir.b x__law_stir.k x__law_stir.m m_range) (ok_nx x__law_next.F) (ok_ly x__law_lying.F x__law_next (ok_nx x__law_next.F) m_range) GPC GIS (ok_lo x__law_lower.F m_range m_list m_sorted) m_max m_min m_range m_len m_zip
end Lf
open PySem PySem.W PyProof.Rows
set_option maxRecDepth 100000 in
set_option maxHeartbeats 0 in
theorem PySem.Challenge.cw_laidfields_k13_whole_no_placing_ends_low_holds : PySem.Challenge.rw_laidfields_k13_whole_no_placing_ends_low.Holds := by
  w_on; o_law; k_head; (case hw => w_witness2)
  k_fill
  refine L2.walk_ofK (l := PySem.Challenge.rw_laidfields_k13_whole_no_placing_ends_low) (n := 63) (k := 30) (x := "script") (CX := L2.CX0) (sp := Lf.spLaw) rfl (by decide) rfl ⟨rfl, by decide, by decide⟩ (fun w h Y => PySem.W.kIn_of Y) ?F ?S ?C
  case F =>
    intro w mg fa h KX G hmg
    refine' Lf.all_mk KX G hmg ?a0 ?l0 ?c0 ?k0 ?a1 ?l1 ?c1 ?k1 ?a2 ?l2 ?c2 ?k2 ?a3 ?l3 ?c3 ?k3 ?a4 ?l4 ?c4 ?k4 ?a5 ?l5 ?c5 ?k5 ?a6 ?l6 ?c6 ?k6 ?a7 ?l7 ?c7 ?k7 ?a8 ?l8 ?c8 ?k8 ?a9 ?l9 ?c9 ?k9 ?a10 ?l10 ?c10 ?k10 ?a11 ?l11 ?c11 ?k11 ?a12 ?l12 ?c12 ?k12 ?a13 ?l13 ?c13 ?k13 ?a14 ?l14 ?c14 ?k14 ?a15 ?l15 ?c15 ?k15 ?a16 ?l16 ?c16 ?k16 ?a17 ?l17 ?c17 ?k17 ?a18 ?l18 ?c18 ?k18 ?a19 ?l19 ?c19 ?k19 ?a20 ?l20 ?c20 ?k20 ?a21 ?l21 ?c21 ?k21 ?a22 ?l22 ?c22 ?k22 ?a23 ?l23 ?c23 ?k23 ?a24 ?l24 ?c24 ?k24 ?a25 ?l25 ?c25 ?k25 ?a26 ?l26 ?c26 ?k26 ?a27 ?l27 ?c27 ?k27 ?z0 ?z1 ?z2 ?z3 ?z4 ?z5 ?z6 ?z7 ?z8 ?z9 ?z10 ?z11
    (case a0 => k_is); (case l0 => k_is); (case c0 => k_is); (case k0 => k_is)
    (case a1 => k_is); (case l1 => k_is); (case c1 => k_is); (case k1 => k_is)
    (case a2 => k_is); (case l2 => k_is); (case c2 => k_is); (case k2 => k_is)
    (case a3 => k_is); (case l3 => k_is); (case c3 => k_is); (case k3 => k_is)
    (case a4 => k_is); (case l4 => k_is); (case c4 => k_is); (case k4 => k_is)
    (case a5 => k_is); (case l5 => k_is); (case c5 => k_is); (case k5 => k_is)
    (case a6 => k_is); (case l6 => k_is); (case c6 => k_is); (case k6 => k_is)
    (case a7 => k_is); (case l7 => k_is); (case c7 => k_is); (case k7 => k_is)
    (case a8 => k_is); (case l8 => k_is); (case c8 => k_is); (case k8 => k_is)
    (case a9 => k_is); (case l9 => k_is); (case c9 => k_is); (case k9 => k_is)
    (case a10 => k_is); (case l10 => k_is); (case c10 => k_is); (case k10 => k_is)
    (case a11 => k_is); (case l11 => k_is); (case c11 => k_is); (case k11 => k_is)
    (case a12 => k_is); (case l12 => k_is); (case c12 => k_is); (case k12 => k_is)
    (case a13 => k_is); (case l13 => k_is); (case c13 => k_is); (case k13 => k_is)
    (case a14 => k_is); (case l14 => k_is); (case c14 => k_is); (case k14 => k_is)
    (case a15 => k_is); (case l15 => k_is); (case c15 => k_is); (case k15 => k_is)
    (case a16 => k_is); (case l16 => k_is); (case c16 => k_is); (case k16 => k_is)
    (case a17 => k_is); (case l17 => k_is); (case c17 => k_is); (case k17 => k_is)
    (case a18 => k_is); (case l18 => k_is); (case c18 => k_is); (case k18 => k_is)
    (case a19 => k_is); (case l19 => k_is); (case c19 => k_is); (case k19 => k_is)
    (case a20 => k_is); (case l20 => k_is); (case c20 => k_is); (case k20 => k_is)
    (case a21 => k_is); (case l21 => k_is); (case c21 => k_is); (case k21 => k_is)
    (case a22 => k_is); (case l22 => k_is); (case c22 => k_is); (case k22 => k_is)
    (case a23 => k_is); (case l23 => k_is); (case c23 => k_is); (case k23 => k_is)
    (case a24 => k_is); (case l24 => k_is); (case c24 => k_is); (case k24 => k_is)
    (case a25 => k_is); (case l25 => k_is); (case c25 => k_is); (case k25 => k_is)
    (case a26 => k_is); (case l26 => k_is); (case c26 => k_is); (case k26 => k_is)
    (case a27 => k_is); (case l27 => k_is); (case c27 => k_is); (case k27 => k_is)
    (case z0 => k_is); (case z1 => k_is); (case z2 => k_is); (case z3 => k_is); (case z4 => k_is); (case z5 => k_is); (case z6 => k_is); (case z7 => k_is); (case z8 => k_is); (case z9 => k_is); (case z10 => k_is); (case z11 => k_is)
  case S => exact fun K H a ns hl _ hS => ⟨a, ns, rfl, hS, hl, fun _ => rfl⟩
  case C => exact fun _ _ _ _ z => z
#print axioms PySem.Challenge.cw_laidfields_k13_whole_no_placing_ends_low_holds
