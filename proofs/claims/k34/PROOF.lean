import PyProof.Rows.All
import Wide.All
import OpenK.AllK
import Wide.FinOn
import PyProof.EqAt
import PyProof.EqKinds
import PyProof.TupleCall
import KE.BitLaws
import PyProof.Rows.SortShellAny
import PyProof.ReprReads
import PyProof.WalksEnum
import KE.KRevSl
import KE.KRegrown
import PyProof.GenCompD
import PyProof.Rows.SumGenA
import PyProof.Rows.ZipGen
import KE.KItemsList
import PyProof.ListRange
import KE.KSortTupUse
import PyProof.WalkInts
import PyProof.Draws
import PySem.Challenge.RW_stretchleast_k34_spreads_and_worths_plan
set_option Elab.async false
set_option linter.all false
set_option maxRecDepth 100000
namespace L2
open PySem PySem.Spec PyProof.Rows

/-- a key: an int or a str -/
abbrev Key := Sum Int Str
def keyIs : Key → Value → Bool
  | .inl k, v => Value.isInt k v
  | .inr x, v => Value.isStrOf x v
def keyH (w : World) : Key → Int
  | .inl k => hashInt k
  | .inr x => hashStr w x
theorem keyIs_shape : ∀ {k : Key} {v : Value}, keyIs k v = true → (∃ i t, k = Sum.inl i ∧ v = Value.int i t) ∨ (∃ x t, k = Sum.inr x ∧ v = Value.str x t)
  | .inl i, v, h => by
    obtain ⟨t, e⟩ := Value.isInt_shape (k := i) (v := v) h
    exact .inl ⟨i, t, rfl, e⟩
  | .inr x, v, h => by
    obtain ⟨t, e⟩ := Value.isStrOf_shape (x := x) (v := v) h
    exact .inr ⟨x, t, rfl, e⟩
theorem key_ll (a b : Int) : decide ((Sum.inl a : Key) = Sum.inl b) = (a == b) := by
  by_cases e : a = b
  · subst e; simp
  · have h : ¬ (Sum.inl a : Key) = Sum.inl b := fun q => e (Sum.inl.inj q)
    rw [decide_eq_false h]
    exact (beq_eq_false_iff_ne.mpr e).symm
theorem key_rr (a b : Str) : decide ((Sum.inr a : Key) = Sum.inr b) = decide (a = b) := by
  by_cases e : a = b
  · subst e; simp
  · have h : ¬ (Sum.inr a : Key) = Sum.inr b := fun q => e (Sum.inr.inj q)
    rw [decide_eq_false h, decide_eq_false e]
theorem key_lr (a : Int) (b : Str) : decide ((Sum.inl a : Key) = Sum.inr b) = false := decide_eq_false (fun q => nomatch q)
theorem key_rl (a : Str) (b : Int) : decide ((Sum.inr a : Key) = Sum.inl b) = false := decide_eq_false (fun q => nomatch q)

def mixKind (prog : Program) (w : World) : PySem.KeyKind prog w Key where
  is := keyIs
  hash := keyH w
  inj := fun v a b ha hb => by
    rcases keyIs_shape ha with ⟨i, t, rfl, rfl⟩ | ⟨x, t, rfl, rfl⟩
    · rcases keyIs_shape hb with ⟨j, u, rfl, e⟩ | ⟨y, u, rfl, e⟩
      · injection e with e1 _; rw [e1]
      · exact nomatch e
    · rcases keyIs_shape hb with ⟨j, u, rfl, e⟩ | ⟨y, u, rfl, e⟩
      · exact nomatch e
      · injection e with e1 _; rw [e1]
  byValue := fun k v h => by
    rcases keyIs_shape h with ⟨i, t, rfl, rfl⟩ | ⟨x, t, rfl, rfl⟩ <;> rfl
  pyHash := fun hv h => by
    rcases keyIs_shape hv with ⟨i, t, rfl, rfl⟩ | ⟨x, t, rfl, rfl⟩
    · exact wpAny_pyHash_int h
    · exact wpAny_pyHash_str h
  eqBool := fun hu hv h => by
    rcases keyIs_shape hu with ⟨i, t, rfl, rfl⟩ | ⟨x, t, rfl, rfl⟩
    · rcases keyIs_shape hv with ⟨j, u, rfl, rfl⟩ | ⟨y, u, rfl, rfl⟩
      · rw [key_ll] at h; exact wpAny_eqBool_int h
      · rw [key_lr] at h; exact SeqAt.EqAt.int_str i t y u _ _ _ _ h
    · rcases keyIs_shape hv with ⟨j, u, rfl, rfl⟩ | ⟨y, u, rfl, rfl⟩
      · rw [key_rl] at h; exact SeqAt.EqAt.str_int x t j u _ _ _ _ h
      · rw [key_rr] at h; exact wpAny_eqBool_str h
  «strs» := fun k x t v h => by
    rcases keyIs_shape h with ⟨i, u, rfl, e⟩ | ⟨y, u, rfl, e⟩
    · exact nomatch e
    · injection e with e1 _
      subst e1
      cases v <;> rfl

end L2

namespace L2
open PySem PySem.Spec PyProof.Rows

/-- a value, without the heap -/
inductive V where
  | non | bl (b : Bool) | int (i : Int) | str (x : Str) | byt (b : Array UInt8) | flt (b : UInt64) | ref (a : Addr) | ty (n : String)
  deriving DecidableEq

def RelV : V → Value → Prop
  | .non, u => u = Value.none
  | .bl b, u => u = Value.bool b
  | .int i, u => ∃ t, u = Value.int i t
  | .str x, u => ∃ t, u = Value.str x t
  | .byt b, u => ∃ t, u = Value.bytes b t
  | .flt b, u => ∃ t, u = Value.float b t
  | .ref a, u => u = Value.ref a
  | .ty n, u => u = Value.type n

abbrev Vals : List V → List Value → Prop := Paired RelV
theorem Vals.length {xs : List V} {us : List Value} (r : Vals xs us) : xs.length = us.length := Paired.length r
theorem Vals.get : ∀ {xs : List V} {us : List Value} {i : Nat} {x : V}, Vals xs us → xs[i]? = some x → ∃ u, us[i]? = some u ∧ RelV x u
  | _, _, _, _, .nil, e => by simp at e
  | _, _, 0, _, .cons r _, e => by simp at e; subst e; exact ⟨_, rfl, r⟩
  | _, _, i + 1, x, .cons _ t, e => by
    obtain ⟨u, h1, h2⟩ := Vals.get (i := i) (x := x) t (by simpa using e)
    exact ⟨u, by simpa using h1, h2⟩
theorem Vals.set {x : V} {u : Value} (r : RelV x u) : ∀ {xs : List V} {us : List Value} (i : Nat), Vals xs us → Vals (xs.set i x) (us.set i u)
  | _, _, _, .nil => .nil
  | _, _, 0, .cons _ t => .cons r t
  | _, _, i + 1, .cons q t => .cons q (Vals.set r i t)
theorem Vals.append : ∀ {xs ys : List V} {us ws : List Value}, Vals xs us → Vals ys ws → Vals (xs ++ ys) (us ++ ws)
  | _, _, _, _, .nil, s => s
  | _, _, _, _, .cons r t, s => .cons r (Vals.append t s)
theorem Vals.take : ∀ {xs : List V} {us : List Value} (n : Nat), Vals xs us → Vals (xs.take n) (us.take n)
  | _, _, 0, _ => .nil
  | _, _, _ + 1, .nil => .nil
  | _, _, n + 1, .cons r t => .cons r (Vals.take n t)
theorem Vals.drop : ∀ {xs : List V} {us : List Value} (n : Nat), Vals xs us → Vals (xs.drop n) (us.drop n)
  | _, _, 0, r => r
  | _, _, _ + 1, .nil => .nil
  | _, _, n + 1, .cons _ t => Vals.drop n t
def RelO : Option V → Option Value → Prop
  | some v, some u => RelV v u
  | none, none => True
  | _, _ => False
def KV {κ : Type} : List (κ × V) → List (κ × Value) → Prop := Paired fun (p : κ × V) (q : κ × Value) => p.1 = q.1 ∧ RelV p.2 q.2

/-- a key of a dict (00_mix): an int or a text -/
def kV : Key → V
  | .inl i => .int i
  | .inr x => .str x

/-- what stands at a tracked address -/
inductive HO where
  /-- a list -/
  | lst (xs : List V)
  /-- a tuple (never changes) -/
  | tup (xs : List V)
  /-- a dict whose keys are ints and texts; one whose keys are tuples of ints and texts (the empty one is both) -/
  | dK (kvs : List (Key × V)) | dT (kvs : List (List Key × V))
  /-- a set of ints: its members, its size -/
  | set (S : Int → Bool) (n : Nat)
  /-- an instance of the class at C, its dict at dx, its attributes -/
  | ins (C dx : Addr) (fs : List (Str × V))
  /-- the dict of the instance at x -/
  | own (x : Addr)
  /-- the dict of an exception -/
  | xd (fs : List (Str × V))
  /-- a bound method, f of x -/
  | met (f x : Addr)
  /-- a range object lo, lo + 1, .. below hi -/
  | rng (lo hi : Int)
  /-- a thing that is known to the object (the script; a dict while a loop walks it): read, never written while it is so -/
  | frz (o : Obj) (u : HO)
  /-- a code object's table -/
  | tbl (ps : Array Value)
  /-- any other thing, by what is true of its one object (a def of one's own: SetO a S n := HO.ext fun h => ..) -/
  | ext (φ : Heap → Prop)

abbrev Hp := Addr → Option HO
def upd (H : Hp) (a : Addr) (o : HO) : Hp := fun b => if b = a then some o else H b
theorem upd_same {H : Hp} {a : Addr} {o : HO} : upd H a o a = some o := by unfold upd; rw [if_pos rfl]
theorem upd_ne {H : Hp} {a b : Addr} {o : HO} (h : b ≠ a) : upd H a o b = H b := by unfold upd; rw [if_neg h]
theorem ne_of_none {H : Hp} {a b : Addr} {o : HO} (h : H a = some o) (h' : H b = none) : a ≠ b := by
  intro e; subst e; rw [h] at h'; cases h'

section
variable (P : Program) (w : World)
def ObjOk (H : Hp) (h : Heap) (a : Addr) : HO → Prop
  | .lst xs => xs.length ≤ sizeLine ∧ ∃ (its : List Value) (n : Nat), Vals xs its ∧ h.get? a = some { cls := .type "list", data := .seq its.toArray n }
  | .tup xs => xs.length ≤ sizeLine ∧ ∃ its : List Value, Vals xs its ∧ IsTup h a its.toArray
  | .dK kvs => kvs.length ≤ sizeLine ∧ (a == sysModules) = false ∧ ∃ vs, KV kvs vs ∧ h.DictOf (mixKind P w) a vs
  | .dT kvs => kvs.length ≤ sizeLine ∧ (a == sysModules) = false ∧ ∃ xs : List (List Key × Addr × Value),
      Paired (fun (p : List Key × V) (q : List Key × Addr × Value) => p.1 = q.1 ∧ H q.2.1 = some (.tup (p.1.map kV)) ∧ RelV p.2 q.2.2) kvs xs ∧
      ∃ o es ep, h.get? a = some o ∧ o.ExactDict ∧ o.data = .dict es ep ∧ es.toList = xs.map (entryOfKey (tupleKind (mixKind P w))) ∧ (xs.map (·.1)).Nodup
  | .set S n => h.SetOf (intKind P w) a S n
  | .ins C dx fs => H dx = some (.own a) ∧ fs.length ≤ 1000 ∧ dx ≠ a ∧ h.get? a = some (PySem.W.instObj C dx) ∧
      ∃ mA, h.Ns1 dx mA ∧ (∀ f, RelO (fs.lookup f) (mA f)) ∧ PySem.Within mA (fs.map (·.1))
  | .own _ => ∃ o, h.get? a = some o
  | .xd fs => ∃ mA, h.Ns1 a mA ∧ ∀ f, RelO (fs.lookup f) (mA f)
  | .rng lo hi => ∃ t u v, h.get? a = some { cls := .type "range", data := .fields #[.int lo t, .int hi u, .int 1 v] }
  | .frz o u => h.get? a = some o ∧ ObjOk H h a u
  | .tbl ps => h.get? a = some { cls := .none, data := .fields ps } ∧ TriplesOk ps.toList
  | .met f x => h.get? a = some (PySem.W.methodObj (.ref f) (.ref x))
  | .ext φ => φ h ∧ (∃ o, h.get? a = some o) ∧ ∀ h1 h2 : Heap, φ h1 → (∀ o, h1.get? a = some o → h2.get? a = some o) → φ h2
/-- the abstract heap is held -/
def HOk (H : Hp) (h : Heap) : Prop := ∀ a o, H a = some o → ObjOk P w H h a o
end

section
variable {P : Program} {w : World} {H H' : Hp} {h h' : Heap} {a : Addr} {o : HO}
theorem ObjOk.lt (x : ObjOk P w H h a o) : a < h.objs.size := by
  cases o with
  | lst xs => obtain ⟨_, _, _, _, e⟩ := x; exact Heap.lt_size e
  | tup xs => obtain ⟨_, _, _, p⟩ := x; exact p.lt
  | dK kvs => obtain ⟨_, _, _, _, o, _, _, e, _⟩ := x; exact Heap.lt_size e
  | dT kvs => obtain ⟨_, _, _, _, o, _, _, e, _⟩ := x; exact Heap.lt_size e
  | set S n => obtain ⟨o, _, _, _, e, _⟩ := x; exact Heap.lt_size e
  | ins C dx fs => obtain ⟨_, _, _, e, _⟩ := x; exact Heap.lt_size e
  | own y => obtain ⟨_, e⟩ := x; exact Heap.lt_size e
  | xd fs => obtain ⟨_, ⟨_, _, _, e, _⟩, _⟩ := x; exact Heap.lt_size e
  | rng lo hi => obtain ⟨_, _, _, e⟩ := x; exact Heap.lt_size e
  | frz ob u => obtain ⟨e, _⟩ := x; exact Heap.lt_size e
  | tbl ps => exact Heap.lt_size (show h.get? a = some _ from (show _ ∧ _ from x).1)
  | met f y => exact Heap.lt_size (show h.get? a = some _ from x)
  | ext φ => obtain ⟨_, ⟨_, e⟩, _⟩ := x; exact Heap.lt_size e
theorem Paired.mapP {α β : Type} {F G : α → β → Prop} : ∀ {l₁ : List α} {l₂ : List β}, Paired F l₁ l₂ → (∀ a b, F a b → G a b) → Paired G l₁ l₂
  | _, _, .nil, _ => .nil
  | _, _, .cons r t, f => .cons (f _ _ r) (Paired.mapP t f)
/-- what an object's description leans on: its own object, its own dict, the tuples -/
theorem ObjOk.stay (x : ObjOk P w H h a o) (k : ∀ b u, (b = a ∨ H b = some (.own a)) → h.get? b = some u → h'.get? b = some u)
    (ho : ∀ b, H b = some (.own a) → H' b = some (.own a)) (ht : ∀ b xs, H b = some (.tup xs) → H' b = some (.tup xs)) : ObjOk P w H' h' a o := by
  induction o with
  | lst xs => obtain ⟨z, its, n, r, e⟩ := x; exact ⟨z, its, n, r, k _ _ (.inl rfl) e⟩
  | tup xs => obtain ⟨z, its, r, ob, e, c⟩ := x; exact ⟨z, its, r, ob, k _ _ (.inl rfl) e, c⟩
  | dK kvs => obtain ⟨z, y, vs, r, ob, es, ep, e, c⟩ := x; exact ⟨z, y, vs, r, ob, es, ep, k _ _ (.inl rfl) e, c⟩
  | dT kvs =>
    obtain ⟨z, y, xs, r, ob, es, ep, e, c⟩ := x
    exact ⟨z, y, xs, Paired.mapP r fun p q z => ⟨z.1, ht _ _ z.2.1, z.2.2⟩, ob, es, ep, k _ _ (.inl rfl) e, c⟩
  | set S n => obtain ⟨ob, es, ep, t, e, c⟩ := x; exact ⟨ob, es, ep, t, k _ _ (.inl rfl) e, c⟩
  | ins C dx fs =>
    obtain ⟨d, z, ne, e, mA, ⟨od, es, ep, e2, c⟩, r⟩ := x
    exact ⟨ho _ d, z, ne, k _ _ (.inl rfl) e, mA, ⟨od, es, ep, k _ _ (.inr d) e2, c⟩, r⟩
  | own y => obtain ⟨ob, e⟩ := x; exact ⟨ob, k _ _ (.inl rfl) e⟩
  | xd fs => obtain ⟨mA, ⟨od, es, ep, e, c⟩, r⟩ := x; exact ⟨mA, ⟨od, es, ep, k _ _ (.inl rfl) e, c⟩, r⟩
  | rng lo hi => obtain ⟨t, u, v, e⟩ := x; exact ⟨t, u, v, k _ _ (.inl rfl) e⟩
  | frz ob u ih => obtain ⟨e, q⟩ := x; exact ⟨k _ _ (.inl rfl) e, ih q⟩
  | tbl ps =>
    have e : h.get? a = some { cls := .none, data := .fields ps } ∧ TriplesOk ps.toList := x
    show h'.get? a = some { cls := .none, data := .fields ps } ∧ TriplesOk ps.toList
    exact ⟨k a _ (.inl rfl) e.1, e.2⟩
  | met f y =>
    have e : h.get? a = some (PySem.W.methodObj (.ref f) (.ref y)) := x
    show h'.get? a = some (PySem.W.methodObj (.ref f) (.ref y))
    exact k a _ (.inl rfl) e
  | ext φ => obtain ⟨p, ⟨o, e⟩, st⟩ := x; exact ⟨st _ _ p fun o q => k _ _ (.inl rfl) q, ⟨o, k _ _ (.inl rfl) e⟩, st⟩
theorem HOk.lt (x : HOk P w H h) (e : H a = some o) : a < h.objs.size := (x a o e).lt
theorem HOk.fresh (x : HOk P w H h) (e : h.objs.size ≤ a) : H a = none := by
  cases q : H a with
  | none => rfl
  | some u => exact absurd (Nat.lt_of_lt_of_le (x.lt q) e) (Nat.lt_irrefl _)
/-- every object of the heap is kept -/
theorem HOk.kept (x : HOk P w H h) (k : ∀ b u, h.get? b = some u → h'.get? b = some u) : HOk P w H h' := fun a o e =>
  (x a o e).stay (fun b u _ q => k b u q) (fun _ q => q) fun _ _ q => q
/-- a new object is laid and tracked -/
theorem HOk.laid (x : HOk P w H h) (k : ∀ b u, h.get? b = some u → h'.get? b = some u) (hp : h.objs.size ≤ a) (new : ObjOk P w (upd H a o) h' a o) : HOk P w (upd H a o) h' := fun b u e => by
  have hn := x.fresh hp
  by_cases hb : b = a
  · subst hb; rw [upd_same] at e; cases e; exact new
  · rw [upd_ne hb] at e
    exact (x b u e).stay (fun c v _ q => k c v q) (fun c q => by rw [upd_ne (ne_of_none q hn)]; exact q) fun c xs q => by rw [upd_ne (ne_of_none q hn)]; exact q
end

/-- what may be read as u: it is u, or a known u -/
def Rd (H : Hp) (a : Addr) (u : HO) : Prop := H a = some u ∨ ∃ o, H a = some (.frz o u)
theorem Rd.of {H : Hp} {a : Addr} {u : HO} (h : H a = some u) : Rd H a u := .inl h
theorem Rd.ok {P : Program} {w : World} {H : Hp} {h : Heap} {a : Addr} {u : HO} (r : Rd H a u) (x : HOk P w H h) : ObjOk P w H h a u := by
  rcases r with r | ⟨o, r⟩
  · exact x a u r
  · obtain ⟨_, q⟩ := x a _ r
    exact q
/-- what may be written -/
def Mut : Option HO → Prop
  | some (.lst _) => True
  | some (.dK _) => True
  | some (.dT _) => True
  | some (.set _ _) => True
  | some (.ins _ _ _) => True
  | some (.ext _) => True
  | _ => False
section
variable {P : Program} {w : World} {H : Hp} {h h' : Heap} {x e : Addr} {o' : HO}
/-- the object at e is changed: x itself, or the dict of the instance x -/
theorem HOk.write (ok : HOk P w H h) (mu : Mut (H x)) (he : e = x ∨ H e = some (.own x)) (k : ∀ b u, b ≠ e → h.get? b = some u → h'.get? b = some u) (heo : ∃ u, h'.get? e = some u)
    (new : ObjOk P w (upd H x o') h' x o') : HOk P w (upd H x o') h' := fun b u q => by
  have nown : ∀ c y, H c = some (.own y) → c ≠ x := fun c y r z => by subst z; rw [r] at mu; exact mu
  have ntup : ∀ c xs, H c = some (.tup xs) → c ≠ x := fun c xs r z => by subst z; rw [r] at mu; exact mu
  by_cases hb : b = x
  · subst hb; rw [upd_same] at q; cases q; exact new
  · rw [upd_ne hb] at q
    by_cases hbe : b = e
    · have q' : H b = some (.own x) := by
        rcases he with z | z
        · exact absurd (hbe.trans z) hb
        · rw [hbe]; exact z
      rw [q] at q'; cases q'
      obtain ⟨v, hv⟩ := heo
      exact ⟨v, by rw [hbe]; exact hv⟩
    · refine (ok b u q).stay (fun c v hc r => k c v ?_ r) (fun c r => by rw [upd_ne (nown c b r)]; exact r) fun c xs r => by rw [upd_ne (ntup c xs r)]; exact r
      rcases hc with rfl | hc
      · exact hbe
      · rintro rfl
        rcases he with z | z
        · exact nown c b hc z
        · rw [hc] at z; cases z; exact hb rfl
end

structure Un (fs ex : List Addr) (H H' : Hp) (h h' : Heap) : Prop where
  keep : ∀ b o, h.get? b = some o → H b = none → b ∉ fs → b ∉ ex → h'.get? b = some o
  slot : ∀ b o, h.get? b = some o → H b = none → b ∈ fs → b ∉ ex → ∃ sl, h'.get? b = some { o with slots := sl }
  free : ∀ b o, h.get? b = some o → H b = none → b ∉ ex → H' b = none
  there : ∀ b o, h.get? b = some o → b ∉ ex → ∃ o', h'.get? b = some o'
  tups : ∀ b xs, H b = some (.tup xs) → H' b = some (.tup xs)
  frzs : ∀ b o u, H b = some (.frz o u) → H' b = some (.frz o u)
  tbls : ∀ b ps, H b = some (.tbl ps) → ∃ more, H' b = some (.tbl (ps ++ more))
section
variable {fs fs' ex ex' : List Addr} {H H1 H2 : Hp} {h h1 h2 h' : Heap} {a x e : Addr} {o : HO}
theorem Un.any (u : Un fs ex H H1 h h1) {b : Addr} {ob : Obj} (q : h.get? b = some ob) (n : H b = none) (hx : b ∉ ex) : ∃ sl, h1.get? b = some { ob with slots := sl } := by
  by_cases hb : b ∈ fs
  · exact u.slot b ob q n hb hx
  · exact ⟨ob.slots, u.keep b ob q n hb hx⟩
theorem Un.trans (a : Un fs ex H H1 h h1) (b : Un fs ex H1 H2 h1 h2) : Un fs ex H H2 h h2 where
  keep := fun c ob q n hc hx => b.keep c ob (a.keep c ob q n hc hx) (a.free c ob q n hx) hc hx
  slot := fun c ob q n hc hx => by
    obtain ⟨sl, e1⟩ := a.slot c ob q n hc hx
    obtain ⟨sl', e2⟩ := b.slot c _ e1 (a.free c ob q n hx) hc hx
    exact ⟨sl', e2⟩
  free := fun c ob q n hx => by
    obtain ⟨o', e1⟩ := a.there c ob q hx
    exact b.free c o' e1 (a.free c ob q n hx) hx
  there := fun c ob q hx => by
    obtain ⟨o', e1⟩ := a.there c ob q hx
    exact b.there c o' e1 hx
  tups := fun c xs q => b.tups c xs (a.tups c xs q)
  frzs := fun c ob xs q => b.frzs c ob xs (a.frzs c ob xs q)
  tbls := fun c ps q => by
    obtain ⟨m1, e1⟩ := a.tbls c ps q
    obtain ⟨m2, e2⟩ := b.tbls c _ e1
    exact ⟨m1 ++ m2, by rw [e2, Array.append_assoc]⟩
theorem Un.kept (k : ∀ b u, h.get? b = some u → h'.get? b = some u) : Un fs ex H H h h' :=
  ⟨fun b ob q _ _ _ => k b ob q, fun b ob q _ _ _ => ⟨ob.slots, k b ob q⟩, fun _ _ _ n _ => n, fun b ob q _ => ⟨ob, k b ob q⟩, fun _ _ q => q, fun _ _ _ q => q, fun _ ps q => ⟨#[], by rw [q]; simp⟩⟩
theorem Un.refl : Un fs ex H H h h := Un.kept fun _ _ q => q
theorem Un.laid (k : ∀ b u, h.get? b = some u → h'.get? b = some u) (hp : h.objs.size ≤ a) (hn : H a = none) : Un fs ex H (upd H a o) h h' where
  keep := fun b u q _ _ _ => k b u q
  slot := fun b u q _ _ _ => ⟨u.slots, k b u q⟩
  free := fun b u q n _ => by rw [upd_ne (Nat.ne_of_lt (Nat.lt_of_lt_of_le (Heap.lt_size q) hp))]; exact n
  there := fun b u q _ => ⟨u, k b u q⟩
  tups := fun b xs q => by rw [upd_ne (ne_of_none q hn)]; exact q
  frzs := fun b u xs q => by rw [upd_ne (ne_of_none q hn)]; exact q
  tbls := fun b ps q => ⟨#[], by rw [upd_ne (ne_of_none q hn), q]; simp⟩
theorem Un.write (mu : Mut (H x)) (he : e = x ∨ H e = some (.own x)) (k : ∀ b u, b ≠ e → h.get? b = some u → h'.get? b = some u) (heo : ∃ u, h'.get? e = some u) : Un fs ex H (upd H x o) h h' := by
  have hx : ∀ b, H b = none → b ≠ x := fun b n z => by subst z; rw [n] at mu; exact mu
  have hb : ∀ b, H b = none → b ≠ e := fun b n z => by
    subst z
    rcases he with r | r
    · exact hx b n r
    · rw [n] at r; cases r
  have hm : ∀ b u, H b = some u → ¬ Mut (some u) → b ≠ x := fun b u q nm z => by subst z; rw [q] at mu; exact nm mu
  refine ⟨fun b u q n _ _ => k b u (hb b n) q, fun b u q n _ _ => ⟨u.slots, k b u (hb b n) q⟩, fun b u q n _ => by rw [upd_ne (hx b n)]; exact n, fun b u q _ => ?_,
    fun b xs q => by rw [upd_ne (hm b _ q fun z => z)]; exact q, fun b u xs q => by rw [upd_ne (hm b _ q fun z => z)]; exact q, fun b ps q => ⟨#[], by rw [upd_ne (hm b _ q fun z => z), q]; simp⟩⟩
  by_cases hbe : b = e
  · subst hbe; exact heo
  · exact ⟨u, k b u hbe q⟩
theorem Un.mono (u : Un fs ex H H1 h h1) (hs : ∀ b ∈ fs, b ∈ fs') (hx : ∀ b ∈ ex, b ∈ ex') : Un fs' ex' H H1 h h1 :=
  ⟨fun b ob q n hb he => u.keep b ob q n (fun z => hb (hs b z)) fun z => he (hx b z), fun _ _ q n _ he => u.any q n fun z => he (hx _ z), fun b ob q n he => u.free b ob q n fun z => he (hx b z), fun b ob q he => u.there b ob q fun z => he (hx b z), u.tups, u.frzs, u.tbls⟩
end

def trk (h : Heap) (H : Hp) : List Addr := (List.range h.objs.size).filter fun a => (H a).isSome
def hidT (h : Heap) (H : Hp) : Heap := PySem.W.hideAll h (trk h H)
theorem hidT_size (h : Heap) (H : Hp) : (hidT h H).objs.size = h.objs.size := PySem.W.hideAll_size _ _
theorem hidT_get {h : Heap} {H : Hp} {b : Addr} {o : Obj} (e : h.get? b = some o) (n : H b = none) : (hidT h H).get? b = some o :=
  PySem.W.hideAll_get _ e fun hm => by
    have q : (H b).isSome = true := (List.mem_filter.mp hm).2
    rw [n] at q; simp at q
theorem of_hidT {h : Heap} {H : Hp} {b : Addr} {o : Obj} (e : (hidT h H).get? b = some o) : h.get? b = some o ∧ H b = none := by
  have e' : h.get? b = some o := PySem.W.of_hideAll (trk h H) e
  refine ⟨e', ?_⟩
  cases q : H b with
  | none => rfl
  | some x =>
    have hm : b ∈ trk h H := List.mem_filter.mpr ⟨List.mem_range.mpr (Heap.lt_size e'), by simp [q]⟩
    have z : (hidT h H).get? b = none := PySem.W.hideAll_none (trk h H) hm
    rw [z] at e; cases e

def allNews (g h : Heap) (L : Addr) : List (Addr × Obj) := (List.range h.objs.size).filterMap fun a => if a = L ∨ (g.get? a).isSome = true then none else (h.get? a).map fun o => (a, o)
def rest (g h : Heap) (L d : Addr) : List (Addr × Obj) := (allNews g h L).filter fun p => decide (p.1 ≠ d)
end L2

namespace L2
open PySem PySem.Spec PyProof.Rows

/-- the module's facts, over the base: the heap at the law's entry without what is tracked there -/
structure Mod (K : PySem.W.Frag) (mg : Str → Option Value) (base : Heap) : Prop where
  kin : K.In base
  glob : base.Ns mainGlobals mg
  blt : ∃ mb, base.Ns builtinsNs mb ∧ ∀ x : Str, x ≠ "__name__" → mb x = bootBuiltins x
  nolimit : base.NoLimit
  bmod : ∃ bm ob, BMod base mainGlobals mg bm ob

/-- the table of the code object of a def of the module's top -/
def TabOf (P : Program) (K : PySem.W.Frag) (mg : Str → Option Value) (Pt : Addr) : Prop :=
  ∃ d ∈ recsOf P, ∃ (f : Addr) (o : Obj) (fd : FuncData) (c : Addr) (oc : Obj) (vs : Array Value), mg d.name = some (.ref f) ∧ K.lookup f = some o ∧ o.data = .func fd ∧ fd.code = .ref c ∧ K.lookup c = some oc ∧ oc.data = .fields vs ∧ vs.getD 11 .none = .ref Pt
/-- all those tables are tracked -/
def Tabs (P : Program) (K : PySem.W.Frag) (mg : Str → Option Value) (H : Hp) : Prop := ∀ Pt, TabOf P K mg Pt → ∃ ps, H Pt = some (.tbl ps)
theorem Tabs.un {P : Program} {K : PySem.W.Frag} {mg : Str → Option Value} {fs ex : List Addr} {H H' : Hp} {h h' : Heap} (T : Tabs P K mg H) (u : Un fs ex H H' h h') : Tabs P K mg H' := fun Pt t => by
  obtain ⟨ps, e⟩ := T Pt t
  obtain ⟨more, e'⟩ := u.tbls Pt ps e
  exact ⟨_, e'⟩

/-- the context: a def's body (or a comprehension's block) running. base: fixed through the whole law; s₀, H₀: the entry; outer: the frames whose slots others may change (a def's callers); stack: all frames that run;
   ex: iterators that were made ahead of the entry and are walked here (a comprehension's); fn: the names whose cells were made at the entry (a def: all; a comprehension's block: its own); calm: not within an except suite; pn: pins that every state bears; xe: what is wanted of an exception that leaves the code -/
structure Cx where
  prog : Program
  w : World
  K : PySem.W.Frag
  mg : Str → Option Value
  base : Heap
  A : Around
  N : List Str
  s_0 : Shared
  H_0 : Hp
  env : Env
  outer : List Env
  stack : List Env
  ex : List Addr
  fn : Str → Bool
  calm : Bool
  pn : List (Addr × Obj)
  xe : Value → Shared → Prop
/-- the callers' frames -/
def frs (l : List Env) : List Addr := l.filterMap (·.frame)
abbrev Cx.fs (X : Cx) : List Addr := frs X.outer

def Vis (sc : Scope) (x : Str) : Prop := sc.names.lookup x = some .local ∨ sc.names.lookup x = some .cell ∨ sc.names.lookup x = some .free
def Loc (sc : Scope) (x : Str) : Prop := sc.names.lookup x = some .local ∨ sc.names.lookup x = some .cell
def Look (env : Env) (h : Heap) (m : Str → Option Value) (x : Str) (u : Value) : Prop :=
  (env.kindOf x = some .local ∧ m x = some u) ∨ ((env.kindOf x = some .cell ∨ env.kindOf x = some .free) ∧ ∃ c, env.cells.lookup x = some c ∧ h.IsCell c (some u))

structure Cx.Ok (X : Cx) : Prop where
  mod : Mod X.K X.mg X.base
  kind : X.env.scope.kind = .function
  glob : X.env.globals = mainGlobals
  blt : X.env.builtins = builtinsNs
  above : X.s_0.heap.objs.size ≤ X.env.locals
  inj : ∀ x y c, X.env.cells.lookup x = some c → X.env.cells.lookup y = some c → x = y
  has : ∀ x, (X.env.kindOf x = some .cell ∨ X.env.kindOf x = some .free) → ∃ c, X.env.cells.lookup x = some c
  cab : ∀ x c, X.fn x = true → X.env.cells.lookup x = some c → X.s_0.heap.objs.size ≤ c
  hd : X.calm = true → X.A.handled = none
  frames : X.A.frames = some X.stack
  stk : X.stack = X.outer ∨ (X.stack = X.env :: X.outer ∧ X.env.frame = some X.env.locals)
  exf : ∀ b ∈ X.ex, b ≠ X.env.locals ∧ ∀ x c, X.env.cells.lookup x = some c → c ≠ b
  bs : ∀ b o, X.base.get? b = some o → X.s_0.heap.get? b = some o ∧ X.H_0 b = none
  bsz : X.base.objs.size ≤ X.s_0.heap.objs.size
  noex : ∀ b o, X.base.get? b = some o → b ∉ X.ex
  exfs : ∀ b ∈ X.ex, b ∉ X.fs
  funs : X.s_0.heap.FunFrames X.base X.outer
  frf : ∀ b ∈ X.fs, X.H_0 b = none
  tb : Tabs X.prog X.K X.mg X.H_0

structure Inv (X : Cx) (pins : List (Addr × Obj)) (σ : List (Option V)) (H : Hp) (s : Shared) : Prop where
  ok : X.Ok
  os : s.os = X.s_0.os
  bare : AllBare s.gens
  base : Un X.fs X.ex X.H_0 H X.s_0.heap s.heap
  loc : ∃ m, s.heap.Ns X.env.locals m ∧ ∀ (i : Nat) (x : Str) (v : V), X.N[i]? = some x → σ[i]? = some (some v) → Vis X.env.scope x → ∃ u, RelV v u ∧ Look X.env s.heap m x u
  cell : ∀ x c, X.env.cells.lookup x = some c → ∃ v, s.heap.IsCell c v
  free : H X.env.locals = none
  freeC : ∀ x c, X.env.cells.lookup x = some c → H c = none
  pin : ∀ p ∈ X.pn ++ pins, s.heap.get? p.1 = some p.2 ∧ H p.1 = none ∧ p.1 ≠ X.env.locals ∧ p.1 ∉ X.fs ∧ ∀ v, p.2.data ≠ .cell v
  hok : HOk X.prog X.w H s.heap
  len : σ.length = X.N.length

section
variable {X : Cx} {pins : List (Addr × Obj)} {σ : List (Option V)} {H H' : Hp} {s : Shared} {h' : Heap}

theorem Cx.Ok.nofr (ok : X.Ok) {b : Addr} {o : Obj} (e : X.base.get? b = some o) : b ∉ X.fs := fun hb => by
  have := (ok.funs.mem hb).1
  rw [e] at this; cases this
theorem Inv.bs (I : Inv X pins σ H s) : ∀ b o, X.base.get? b = some o → s.heap.get? b = some o ∧ H b = none := fun b o e =>
  ⟨I.base.keep b o (I.ok.bs b o e).1 (I.ok.bs b o e).2 (I.ok.nofr e) (I.ok.noex b o e), I.base.free b o (I.ok.bs b o e).1 (I.ok.bs b o e).2 (I.ok.noex b o e)⟩
theorem Inv.bk (I : Inv X pins σ H s) : ∀ b o, X.base.get? b = some o → s.heap.get? b = some o := fun b o e => (I.bs b o e).1
theorem Inv.mod (I : Inv X pins σ H s) : Mod X.K X.mg X.base := I.ok.mod
theorem Inv.kIn (I : Inv X pins σ H s) : X.K.In s.heap := I.ok.mod.kin.keeps I.bk
theorem Inv.nolimit (I : Inv X pins σ H s) : s.heap.NoLimit := I.ok.mod.nolimit.keeps I.bk
/-- the frame over the base: for OpenK's rules (K.In X.base is I.mod.kin) -/
theorem Inv.fr (I : Inv X pins σ H s) : ∃ m, Fr X.base X.env.locals s.heap m :=
  let ⟨m, hn, _⟩ := I.loc
  ⟨m, hn, I.bk, Nat.le_trans I.ok.bsz I.ok.above⟩
theorem Inv.lt (I : Inv X pins σ H s) : X.env.locals < s.heap.objs.size := let ⟨_, hn, _⟩ := I.loc; hn.lt
theorem Inv.sz (I : Inv X pins σ H s) : X.s_0.heap.objs.size ≤ s.heap.objs.size := Nat.le_trans I.ok.above (Nat.le_of_lt I.lt)
theorem Inv.nofs (I : Inv X pins σ H s) {a : Addr} (h : s.heap.objs.size ≤ a) : a ∉ X.fs := fun hb => by
  obtain ⟨_, o, ho, _⟩ := I.ok.funs.mem hb
  exact absurd (Nat.lt_of_lt_of_le (Heap.lt_size ho) (Nat.le_trans I.sz h)) (Nat.lt_irrefl _)
theorem Inv.cne (I : Inv X pins σ H s) : ∀ x c, X.env.cells.lookup x = some c → c ≠ X.env.locals := fun x c e z => by
  obtain ⟨v, o, ho, hd⟩ := I.cell x c e
  obtain ⟨m, ⟨o', es, ep, ho', hd', _⟩, _⟩ := I.loc
  rw [z, ho'] at ho; cases ho; rw [hd'] at hd; cases hd
theorem Inv.funs (I : Inv X pins σ H s) : s.heap.FunFrames X.base X.outer := by
  have all : ∀ (l : List Env), (∀ b ∈ frs l, b ∈ X.fs) → X.s_0.heap.FunFrames X.base l → s.heap.FunFrames X.base l := by
    intro l
    induction l with
    | nil => intro _ _; trivial
    | cons env r ih =>
      intro hs hl
      obtain ⟨hk, ⟨L, o, hf, hn, ho, hd⟩, hr⟩ := hl
      have hL : L ∈ X.fs := hs L (by unfold frs; rw [List.filterMap_cons, hf]; exact List.mem_cons_self)
      obtain ⟨sl, e⟩ := I.base.slot L o ho (I.ok.frf L hL) hL fun z => I.ok.exfs L z hL
      exact ⟨hk, ⟨L, _, hf, hn, e, hd⟩, ih (fun b hb => hs b (by unfold frs; rw [List.filterMap_cons, hf]; exact List.mem_cons_of_mem _ hb)) hr⟩
  exact all X.outer (fun _ hb => hb) I.ok.funs

/-- the frames that run, for a call -/
theorem Inv.stack (I : Inv X pins σ H s) : s.heap.FunFrames X.base X.stack := by
  rcases I.ok.stk with e | ⟨e, hf⟩
  · rw [e]; exact I.funs
  · rw [e]
    obtain ⟨m, hn, _⟩ := I.loc
    refine .cons (by rw [I.ok.kind]; decide) hf hn ?_ I.funs
    exact Heap.get?_none_of_le (Nat.le_trans I.ok.bsz I.ok.above)
theorem Inv.stkSub (I : Inv X pins σ H s) : ∀ b ∈ frs X.stack, b ∈ X.env.locals :: X.fs := fun b hb => by
  rcases I.ok.stk with e | ⟨e, hf⟩
  · rw [e] at hb; exact List.mem_cons_of_mem _ hb
  · rw [e] at hb
    unfold frs at hb
    rw [List.filterMap_cons, hf] at hb
    exact hb
theorem Inv.stkFree (I : Inv X pins σ H s) : ∀ b ∈ frs X.stack, H b = none := fun b hb => by
  rcases List.mem_cons.mp (I.stkSub b hb) with e | hb
  · rw [e]; exact I.free
  · obtain ⟨_, o, ho, _⟩ := I.ok.funs.mem hb
    exact I.base.free b o ho (I.ok.frf b hb) fun z => I.ok.exfs b z hb

/-- THE STEP: the untracked objects but the frame and the records at ch are kept (the callers' frames up to slots), the frame's map is kept, the new abstract heap is held -/
theorem Inv.step {g' : Array GenState} {t' : Nat} {d' : Drawn} {ch : List Addr} (I : Inv X pins σ H s)
    (hch : ∀ b ∈ ch, (b ∈ X.ex ∨ X.s_0.heap.objs.size ≤ b) ∧ b ≠ X.env.locals ∧ (∀ x c, X.env.cells.lookup x = some c → c ≠ b) ∧ ∀ p ∈ X.pn ++ pins, p.1 ≠ b)
    (keep : ∀ b o, b ≠ X.env.locals → b ∉ X.fs → b ∉ ch → s.heap.get? b = some o → H b = none → h'.get? b = some o)
    (slot : ∀ b o, b ≠ X.env.locals → b ∈ X.fs → b ∉ ch → s.heap.get? b = some o → H b = none → ∃ sl, h'.get? b = some { o with slots := sl }) (free : ∀ b o, b ∉ ch → s.heap.get? b = some o → H b = none → H' b = none)
    (there : ∀ b o, b ∉ ch → s.heap.get? b = some o → ∃ o', h'.get? b = some o')
    (tups : ∀ b xs, H b = some (.tup xs) → H' b = some (.tup xs)) (frzs : ∀ b o u, H b = some (.frz o u) → H' b = some (.frz o u)) (tbls : ∀ b ps, H b = some (.tbl ps) → ∃ more, H' b = some (.tbl (ps ++ more)))
    (ns : ∀ m, s.heap.Ns X.env.locals m → h'.Ns X.env.locals m) (hok : HOk X.prog X.w H' h') (hg : AllBare g') :
    Inv X pins σ H' { s with heap := h', gens := g', drawn := d', toks := t' } := by
  have neL : ∀ b o, X.s_0.heap.get? b = some o → b ≠ X.env.locals := fun b o e => Nat.ne_of_lt (Nat.lt_of_lt_of_le (Heap.lt_size e) I.ok.above)
  have neC : ∀ b o, X.s_0.heap.get? b = some o → b ∉ X.ex → b ∉ ch := fun b o e hx hb => by
    rcases (hch b hb).1 with z | z
    · exact hx z
    · exact absurd (Nat.lt_of_lt_of_le (Heap.lt_size e) z) (Nat.lt_irrefl _)
  have cellK : ∀ x c, X.env.cells.lookup x = some c → ∀ v, s.heap.IsCell c v → h'.IsCell c v := fun x c e v ⟨o, ho, hd⟩ => by
    have nch : c ∉ ch := fun z => (hch c z).2.2.1 x c e rfl
    by_cases hc : c ∈ X.fs
    · obtain ⟨sl, q⟩ := slot c o (I.cne x c e) hc nch ho (I.freeC x c e)
      exact ⟨_, q, hd⟩
    · exact ⟨o, keep c o (I.cne x c e) hc nch ho (I.freeC x c e), hd⟩
  refine ⟨I.ok, I.os, hg, ⟨fun b o e n hb hx => ?_, fun b o e n hb hx => ?_, fun b o e n hx => ?_, fun b o e hx => ?_, fun b xs e => tups b xs (I.base.tups b xs e), fun b o xs e => frzs b o xs (I.base.frzs b o xs e), fun b ps e => ?_⟩, ?_, fun x c e => ?_, ?_, fun x c e => ?_, fun p hp => ?_, hok, I.len⟩
  · exact keep b o (neL b o e) hb (neC b o e hx) (I.base.keep b o e n hb hx) (I.base.free b o e n hx)
  · obtain ⟨sl, e1⟩ := I.base.slot b o e n hb hx
    obtain ⟨sl', e2⟩ := slot b _ (neL b o e) hb (neC b o e hx) e1 (I.base.free b o e n hx)
    exact ⟨sl', e2⟩
  · obtain ⟨o', e1⟩ := I.base.there b o e hx
    exact free b o' (neC b o e hx) e1 (I.base.free b o e n hx)
  · obtain ⟨o', e1⟩ := I.base.there b o e hx
    exact there b o' (neC b o e hx) e1
  · obtain ⟨m1, e1⟩ := I.base.tbls b ps e
    obtain ⟨m2, e2⟩ := tbls b _ e1
    exact ⟨m1 ++ m2, by rw [e2, Array.append_assoc]⟩
  · obtain ⟨m, hn, hl⟩ := I.loc
    refine ⟨m, ns m hn, fun i x v e1 e2 e3 => ?_⟩
    obtain ⟨u, r, l⟩ := hl i x v e1 e2 e3
    refine ⟨u, r, ?_⟩
    rcases l with l | ⟨k, c, e, z⟩
    · exact .inl l
    · exact .inr ⟨k, c, e, cellK x c e _ z⟩
  · obtain ⟨v, z⟩ := I.cell x c e
    exact ⟨v, cellK x c e v z⟩
  · obtain ⟨m, ⟨o, _, _, ho, _⟩, _⟩ := I.loc
    exact free _ o (fun z => (hch _ z).2.1 rfl) ho I.free
  · obtain ⟨v, o, ho, hd⟩ := I.cell x c e
    exact free c o (fun z => (hch c z).2.2.1 x c e rfl) ho (I.freeC x c e)
  · obtain ⟨e, n, ne, nf, d⟩ := I.pin p hp
    have nch : p.1 ∉ ch := fun z => (hch p.1 z).2.2.2 p hp rfl
    exact ⟨keep p.1 p.2 ne nf nch e n, free p.1 p.2 nch e n, ne, nf, d⟩
/-- .. where the frame's own object is kept too -/
theorem Inv.un {t' : Nat} (I : Inv X pins σ H s) (u : Un X.fs [] H H' s.heap h') (hok : HOk X.prog X.w H' h') : Inv X pins σ H' { s with heap := h', toks := t' } := by
  obtain ⟨m, ⟨o, es, ep, ho, r⟩, _⟩ := id I.loc
  obtain ⟨sl, hL⟩ := u.any ho I.free (by simp)
  exact I.step (g' := s.gens) (d' := s.drawn) (ch := []) (fun _ z => nomatch z) (fun b o _ hb _ e n => u.keep b o e n hb (by simp)) (fun b o _ hb _ e n => u.slot b o e n hb (by simp)) (fun b o _ e n => u.free b o e n (by simp)) (fun b o _ e => u.there b o e (by simp)) u.tups u.frzs u.tbls (fun m' hm => by
    obtain ⟨o', es', ep', ho', r'⟩ := hm
    rw [ho] at ho'; cases ho'
    exact ⟨_, es', ep', hL, r'⟩) hok I.bare
/-- behind a call (or a comprehension's block): the slots of this frame may have changed too, the records at ch may have turned -/
theorem Inv.call {g' : Array GenState} {t' : Nat} {d' : Drawn} {ch : List Addr} (I : Inv X pins σ H s) (u : Un (frs X.stack) ch H H' s.heap h') (hok : HOk X.prog X.w H' h') (hg : AllBare g')
    (hch : ∀ b ∈ ch, (b ∈ X.ex ∨ X.s_0.heap.objs.size ≤ b) ∧ b ≠ X.env.locals ∧ (∀ x c, X.env.cells.lookup x = some c → c ≠ b) ∧ ∀ p ∈ X.pn ++ pins, p.1 ≠ b) :
    Inv X pins σ H' { s with heap := h', gens := g', drawn := d', toks := t' } := by
  obtain ⟨m, ⟨o, es, ep, ho, r⟩, _⟩ := id I.loc
  obtain ⟨sl, hL⟩ := u.any ho I.free fun z => (hch _ z).2.1 rfl
  exact I.step (ch := ch) hch (fun b o hL hb hc e n => u.keep b o e n (fun z => (List.mem_cons.mp (I.stkSub b z)).elim hL hb) hc) (fun b o _ _ hc e n => u.any e n hc) (fun b o hc e n => u.free b o e n hc) (fun b o hc e => u.there b o e hc) u.tups u.frzs u.tbls (fun m' hm => by
    obtain ⟨o', es', ep', ho', r'⟩ := hm
    rw [ho] at ho'; cases ho'
    exact ⟨_, es', ep', hL, r'⟩) hok hg
/-- an untracked record of ours (an iterator) has turned -/
theorem Inv.turned {t' : Nat} {it : Addr} (I : Inv X pins σ H s) (k : ∀ b o, b ≠ it → s.heap.get? b = some o → h'.get? b = some o) (hn : H it = none) (hL : it ≠ X.env.locals)
    (h1 : it ∈ X.ex ∨ X.s_0.heap.objs.size ≤ it) (h2 : ∀ x c, X.env.cells.lookup x = some c → c ≠ it) (h3 : ∀ p ∈ X.pn ++ pins, p.1 ≠ it) : Inv X pins σ H { s with heap := h', toks := t' } := by
  have nit : ∀ b u, H b = some u → b ≠ it := fun b u e z => by rw [z, hn] at e; cases e
  refine I.step (g' := s.gens) (d' := s.drawn) (ch := [it]) (fun b hb => ?_) (fun b o _ _ hc e _ => k b o (fun z => hc (by simp [z])) e) (fun b o _ _ hc e _ => ⟨o.slots, k b o (fun z => hc (by simp [z])) e⟩) (fun _ _ _ _ n => n)
    (fun b o hc e => ⟨o, k b o (fun z => hc (by simp [z])) e⟩) (fun _ _ e => e) (fun _ _ _ e => e) (fun b ps e => ⟨#[], by rw [e]; simp⟩) (fun m hm => ?_) (fun b u e => ?_) I.bare
  · have e : b = it := by simpa using hb
    subst e
    exact ⟨h1, hL, h2, h3⟩
  · obtain ⟨o, es, ep, ho, r⟩ := hm
    exact ⟨o, es, ep, k _ o (Ne.symm hL) ho, r⟩
  · refine (I.hok b u e).stay (fun c v hc q => k c v ?_ q) (fun _ q => q) fun _ _ q => q
    rcases hc with z | z
    · rw [z]; exact nit b u e
    · exact nit c _ z
theorem Inv.tok (I : Inv X pins σ H s) (t : Nat) : Inv X pins σ H { s with toks := t } := I.un (h' := s.heap) (t' := t) Un.refl I.hok
/-- all objects kept -/
theorem Inv.kept {t' : Nat} (I : Inv X pins σ H s) (k : ∀ b u, s.heap.get? b = some u → h'.get? b = some u) : Inv X pins σ H { s with heap := h', toks := t' } := I.un (Un.kept k) (I.hok.kept k)
/-- a new object laid and tracked -/
theorem Inv.laid {a : Addr} {o : HO} {t' : Nat} (I : Inv X pins σ H s) (k : ∀ b u, s.heap.get? b = some u → h'.get? b = some u) (hp : s.heap.objs.size ≤ a) (new : ObjOk X.prog X.w (upd H a o) h' a o) :
    Inv X pins σ (upd H a o) { s with heap := h', toks := t' } := I.un (Un.laid k hp (I.hok.fresh hp)) (I.hok.laid k hp new)
/-- an object written -/
theorem Inv.write {x e : Addr} {o : HO} {t' : Nat} (I : Inv X pins σ H s) (mu : Mut (H x)) (he : e = x ∨ H e = some (.own x)) (k : ∀ b u, b ≠ e → s.heap.get? b = some u → h'.get? b = some u) (heo : ∃ u, h'.get? e = some u)
    (new : ObjOk X.prog X.w (upd H x o) h' x o) : Inv X pins σ (upd H x o) { s with heap := h', toks := t' } := I.un (Un.write mu he k heo) (I.hok.write mu he k heo new)
/-- forgetting slots, pins -/
theorem Inv.weak {σ' : List (Option V)} (I : Inv X pins σ H s) (hl : σ'.length = σ.length) (w : ∀ (i : Nat) v, σ'[i]? = some (some v) → σ[i]? = some (some v)) : Inv X pins σ' H s :=
  ⟨I.ok, I.os, I.bare, I.base, let ⟨m, hn, hl'⟩ := I.loc; ⟨m, hn, fun i x v e1 e2 e3 => hl' i x v e1 (w i v e2) e3⟩, I.cell, I.free, I.freeC, I.pin, I.hok, hl.trans I.len⟩
theorem Inv.pins_of {pins' : List (Addr × Obj)} (I : Inv X pins σ H s) (h : ∀ p ∈ pins', s.heap.get? p.1 = some p.2 ∧ H p.1 = none ∧ p.1 ≠ X.env.locals ∧ p.1 ∉ X.fs ∧ ∀ v, p.2.data ≠ .cell v) : Inv X pins' σ H s :=
  ⟨I.ok, I.os, I.bare, I.base, I.loc, I.cell, I.free, I.freeC, fun p hp => (List.mem_append.mp hp).elim (fun z => I.pin p (List.mem_append_left _ z)) (h p), I.hok, I.len⟩

theorem nodup_ix {N : List Str} (hN : N.Nodup) {i j : Nat} {x : Str} (a : N[i]? = some x) (b : N[j]? = some x) : i = j := by
  obtain ⟨h1, e1⟩ := List.getElem?_eq_some_iff.mp a
  obtain ⟨h2, e2⟩ := List.getElem?_eq_some_iff.mp b
  exact (List.getElem_inj hN).mp (e1.trans e2.symm)

/-- a name is stored; what changed -/
theorem store_ok2 {M : Model} {A : Around} {E : Value → Shared → Prop} {i : Nat} {x : Str} {v : V} {u : Value} {Q : Unit → Shared → Prop} (I : Inv X pins σ H s) (hN : X.N.Nodup) (hi : X.N[i]? = some x) (hx : Loc X.env.scope x) (r : RelV v u)
    (h : ∀ s', Inv X pins (σ.set i (some v)) H s' → (∃ a, Heap.SameBut a s.heap s'.heap ∧ (a = X.env.locals ∨ X.env.cells.lookup x = some a)) → Q () s') (hf : X.fn x = true ∨ X.env.scope.names.lookup x = some .local := by first | exact .inl rfl | exact .inr rfl | assumption) : wpAny M A (storeName X.env x u) Q E s := by
  obtain ⟨m, hn, hl⟩ := id I.loc
  have hcls : (X.env.scope.kind == .class || (X.env.scope.kind == .module && X.env.locals != X.env.globals)) = false := by rw [I.ok.kind]; rfl
  have hiσ : i < σ.length := by rw [I.len]; exact (List.getElem?_eq_some_iff.mp hi).1
  have cne := I.cne
  have tracked : ∀ {a : Addr} {h' : Heap}, (∃ o, s.heap.get? a = some o ∧ H a = none) → Heap.SameBut a s.heap h' → HOk X.prog X.w H h' := fun {a h'} ha hs b ob e => by
    obtain ⟨_, _, hfree⟩ := ha
    refine (I.hok b ob e).stay (fun c w' hc q => (hs.2 c ?_).trans q) (fun _ q => q) fun _ _ q => q
    rintro rfl
    rcases hc with rfl | hc
    · rw [hfree] at e; cases e
    · rw [hfree] at hc; cases hc
  rcases hx with hk | hk
  · refine wpAny_storeName_local hk hn (fun h' hn' hs => ?_) hcls
    obtain ⟨oL, _, _, hoL, _⟩ := id hn
    refine h _ ⟨I.ok, I.os, I.bare, ⟨fun b o e n hb hx => ?_, fun b o e n hb hx => ?_, I.base.free, fun b o e hx => ?_, I.base.tups, I.base.frzs, I.base.tbls⟩, ⟨_, hn', fun j y v' e1 e2 e3 => ?_⟩, fun y c e => ?_, I.free, I.freeC, fun p hp => ?_, tracked ⟨oL, hoL, I.free⟩ hs, by simpa using I.len⟩ ⟨_, hs, .inl rfl⟩
    · exact (hs.2 b (Nat.ne_of_lt (Nat.lt_of_lt_of_le (Heap.lt_size e) I.ok.above))).trans (I.base.keep b o e n hb hx)
    · obtain ⟨sl, e1⟩ := I.base.slot b o e n hb hx
      exact ⟨sl, (hs.2 b (Nat.ne_of_lt (Nat.lt_of_lt_of_le (Heap.lt_size e) I.ok.above))).trans e1⟩
    · obtain ⟨o', e1⟩ := I.base.there b o e hx
      exact ⟨o', (hs.2 b (Nat.ne_of_lt (Nat.lt_of_lt_of_le (Heap.lt_size e) I.ok.above))).trans e1⟩
    · by_cases hj : j = i
      · subst hj
        rw [hi] at e1; cases e1
        rw [List.getElem?_set_self hiσ] at e2
        cases e2
        exact ⟨u, r, .inl ⟨hk, by simp⟩⟩
      · rw [List.getElem?_set_ne (Ne.symm hj)] at e2
        obtain ⟨u', r', q⟩ := hl j y v' e1 e2 e3
        refine ⟨u', r', ?_⟩
        rcases q with ⟨k, e⟩ | ⟨k, c, e, z⟩
        · refine .inl ⟨k, ?_⟩
          have : y ≠ x := fun e => hj (nodup_ix hN e1 (e ▸ hi))
          simp [this, e]
        · exact .inr ⟨k, c, e, z.sameBut hs (cne y c e)⟩
    · obtain ⟨w', z⟩ := I.cell y c e
      exact ⟨w', z.sameBut hs (cne y c e)⟩
    · obtain ⟨e, n, ne, nf, d⟩ := I.pin p hp
      exact ⟨(hs.2 p.1 ne).trans e, n, ne, nf, d⟩
  · have hfn : X.fn x = true := by
      rcases hf with z | z
      · exact z
      · rw [z] at hk; cases hk
    obtain ⟨c, hc⟩ := I.ok.has x (.inl hk)
    obtain ⟨w', z⟩ := I.cell x c hc
    refine wpAny_storeName_cell I.ok.kind hk hc z (fun h' hc' hs => ?_)
    obtain ⟨oc, hoc, hocd⟩ := id z
    refine h { s with heap := h' } ⟨I.ok, I.os, I.bare, ⟨fun b o e n hb hx => ?_, fun b o e n hb hx => ?_, I.base.free, fun b o e hx => ?_, I.base.tups, I.base.frzs, I.base.tbls⟩, ⟨m, hn.sameBut hs (Ne.symm (cne x c hc)), fun j y v' e1 e2 e3 => ?_⟩, fun y c' e => ?_, I.free, I.freeC, fun p hp => ?_, tracked ⟨oc, hoc, I.freeC x c hc⟩ hs, by simpa using I.len⟩ ⟨c, hs, .inr hc⟩
    · exact (hs.2 b (Nat.ne_of_lt (Nat.lt_of_lt_of_le (Heap.lt_size e) (I.ok.cab x c hfn hc)))).trans (I.base.keep b o e n hb hx)
    · obtain ⟨sl, e1⟩ := I.base.slot b o e n hb hx
      exact ⟨sl, (hs.2 b (Nat.ne_of_lt (Nat.lt_of_lt_of_le (Heap.lt_size e) (I.ok.cab x c hfn hc)))).trans e1⟩
    · obtain ⟨o', e1⟩ := I.base.there b o e hx
      exact ⟨o', (hs.2 b (Nat.ne_of_lt (Nat.lt_of_lt_of_le (Heap.lt_size e) (I.ok.cab x c hfn hc)))).trans e1⟩
    · by_cases hj : j = i
      · subst hj
        rw [hi] at e1; cases e1
        rw [List.getElem?_set_self hiσ] at e2
        cases e2
        exact ⟨u, r, .inr ⟨.inl hk, c, hc, hc'⟩⟩
      · rw [List.getElem?_set_ne (Ne.symm hj)] at e2
        obtain ⟨u', r', q⟩ := hl j y v' e1 e2 e3
        refine ⟨u', r', ?_⟩
        rcases q with q | ⟨k, c', e, z'⟩
        · exact .inl q
        · refine .inr ⟨k, c', e, z'.sameBut hs ?_⟩
          rintro rfl
          exact hj (nodup_ix hN e1 (I.ok.inj _ _ _ e hc ▸ hi))
    · by_cases hcc : c' = c
      · subst hcc; exact ⟨_, hc'⟩
      · obtain ⟨w2, z2⟩ := I.cell y c' e
        exact ⟨w2, z2.sameBut hs hcc⟩
    · obtain ⟨e, n, ne, nf, d⟩ := I.pin p hp
      refine ⟨(hs.2 p.1 ?_).trans e, n, ne, nf, d⟩
      intro q
      rw [q, hoc] at e
      have q' : oc = p.2 := Option.some.inj e
      exact d w' (by rw [← q']; exact hocd)
theorem store_ok {M : Model} {A : Around} {E : Value → Shared → Prop} {i : Nat} {x : Str} {v : V} {u : Value} {Q : Unit → Shared → Prop} (I : Inv X pins σ H s) (hN : X.N.Nodup) (hi : X.N[i]? = some x) (hx : Loc X.env.scope x) (r : RelV v u)
    (h : ∀ s', Inv X pins (σ.set i (some v)) H s' → Q () s') (hf : X.fn x = true ∨ X.env.scope.names.lookup x = some .local := by first | exact .inl rfl | exact .inr rfl | assumption) : wpAny M A (storeName X.env x u) Q E s :=
  store_ok2 I hN hi hx r (fun s' I' _ => h s' I') hf
/-- behind a call or a block, the state as it is -/
theorem Inv.call' {s' : Shared} {ch : List Addr} (I : Inv X pins σ H s) (ho : s'.os = s.os) (u : Un (frs X.stack) ch H H' s.heap s'.heap) (hok : HOk X.prog X.w H' s'.heap) (hg : AllBare s'.gens)
    (hch : ∀ b ∈ ch, (b ∈ X.ex ∨ X.s_0.heap.objs.size ≤ b) ∧ b ≠ X.env.locals ∧ (∀ x c, X.env.cells.lookup x = some c → c ≠ b) ∧ ∀ p ∈ X.pn ++ pins, p.1 ≠ b) : Inv X pins σ H' s' := by
  obtain ⟨h', g', d', t', o'⟩ := s'
  have e : o' = s.os := ho
  subst e
  exact I.call (g' := g') (t' := t') (d' := d') u hok hg hch
end

/-- an exception: its class, its own dict's address (where it has one), the abstract heap behind it -/
abbrev XK := Value → Option Addr → Hp → Prop
abbrev St := List (Option V)
abbrev VK := V → Hp → Prop
/-- an expression's reading; a test's; an argument list's -/
abbrev TE := St → Hp → VK → Prop
abbrev TT := St → Hp → (Bool → Hp → Prop) → Prop
abbrev TA := St → Hp → (List V → Hp → Prop) → Prop
/-- what is wanted behind a statement -/
structure Ends where
  nx : St → Hp → Prop
  rt : VK
  bk : St → Hp → Prop := fun _ _ => False
  ct : St → Hp → Prop := fun _ _ => False
abbrev TS := Ends → St → Hp → Prop

def EP (X : Cx) (pins : List (Addr × Obj)) (σ : St) (Q : VK) (u : Value) (s' : Shared) : Prop := ∃ v H', Inv X pins σ H' s' ∧ RelV v u ∧ Q v H'
def TP (X : Cx) (pins : List (Addr × Obj)) (σ : St) (Q : Bool → Hp → Prop) (b : Bool) (s' : Shared) : Prop := ∃ H', Inv X pins σ H' s' ∧ Q b H'
def AP (X : Cx) (pins : List (Addr × Obj)) (σ : St) (Q : List V → Hp → Prop) (us : List Value) (s' : Shared) : Prop := ∃ vs H', Inv X pins σ H' s' ∧ Vals vs us ∧ Q vs H'
def SP (X : Cx) (pins : List (Addr × Obj)) (D : Ends) (f : Flow) (s' : Shared) : Prop :=
  match f with
  | .next => ∃ σ' H', Inv X pins σ' H' s' ∧ D.nx σ' H'
  | .brk => ∃ σ' H', Inv X pins σ' H' s' ∧ D.bk σ' H'
  | .cont => ∃ σ' H', Inv X pins σ' H' s' ∧ D.ct σ' H'
  | .ret u => ∃ v σ' H', Inv X pins σ' H' s' ∧ RelV v u ∧ D.rt v H'

def PE (X : Cx) (e : Expr) (t : TE) : Prop :=
  ∀ (pins : List (Addr × Obj)) (s : Shared) (σ : St) (H : Hp) (Q : VK), Inv X pins σ H s → t σ H Q → wpAny (model X.prog X.w) X.A (eval e X.env) (EP X pins σ Q) X.xe s
def PT (X : Cx) (e : Expr) (t : TT) : Prop :=
  ∀ (pins : List (Addr × Obj)) (s : Shared) (σ : St) (H : Hp) (Q : Bool → Hp → Prop), Inv X pins σ H s → t σ H Q → wpAny (model X.prog X.w) X.A (isTrue e X.env (eval e X.env)) (TP X pins σ Q) X.xe s
/-- a test whatever its 'whole' is (and, or) -/
def PW (X : Cx) (e : Expr) (t : TT) : Prop :=
  ∀ (whole : Sem Value) (pins : List (Addr × Obj)) (s : Shared) (σ : St) (H : Hp) (Q : Bool → Hp → Prop), Inv X pins σ H s → t σ H Q → wpAny (model X.prog X.w) X.A (isTrue e X.env whole) (TP X pins σ Q) X.xe s
theorem PW.pt {X : Cx} {e : Expr} {t : TT} (h : PW X e t) : PT X e t := h _
/-- an argument list (no star), from the left -/
def PA (X : Cx) (es : List Expr) (t : TA) : Prop :=
  ∀ (pos : Pos) (pins : List (Addr × Obj)) (s : Shared) (σ : St) (H : Hp) (Q : List V → Hp → Prop), Inv X pins σ H s → t σ H Q → wpAny (model X.prog X.w) X.A (spliced (backTo pos (starEach es X.env))) (AP X pins σ Q) X.xe s
def PS (X : Cx) (st : Stmt) (t : TS) : Prop :=
  ∀ (pins : List (Addr × Obj)) (s : Shared) (σ : St) (H : Hp) (D : Ends), Inv X pins σ H s → t D σ H → wpAny (model X.prog X.w) X.A (exec st X.env) (SP X pins D) X.xe s
def PSs (X : Cx) (st : List Stmt) (t : TS) : Prop :=
  ∀ (pins : List (Addr × Obj)) (s : Shared) (σ : St) (H : Hp) (D : Ends), Inv X pins σ H s → t D σ H → wpAny (model X.prog X.w) X.A (execs st X.env) (SP X pins D) X.xe s
/-- weaken the end -/
theorem thn {α : Type} {t : Sem α} {Q Q' : α → Shared → Prop} {M : Model} {A : Around} {E : Value → Shared → Prop} {s : Shared} (h : wpAny M A t Q E s) (hQ : ∀ a s, Q a s → Q' a s) : wpAny M A t Q' E s := wpAny_mono h hQ fun _ _ x => x
end L2

namespace L2
open PySem PySem.Spec PyProof.Rows
section
variable {X : Cx}

def tVar (i : Nat) : TE := fun σ H Q => ∃ v, σ[i]? = some (some v) ∧ Q v H
def tC (v : V) : TE := fun _ H Q => Q v H
theorem pe_var {i : Nat} {x : Str} {pos : Pos} (hN : X.N[i]? = some x) (hv : Vis X.env.scope x) (hd : (x == ("__debug__" : Str)) = false := by decide) (hcd : (x == ("__classdict__" : Str)) = false := by decide) : PE X (.Name x pos) (tVar i) := by
  intro pins s σ H Q I h
  obtain ⟨v, e, h⟩ := h
  obtain ⟨m, hn, hl⟩ := I.loc
  obtain ⟨u, r, l⟩ := hl i x v hN e hv
  have fin : EP X pins σ Q u s := ⟨v, H, I, r, h⟩
  rcases l with ⟨hk, hm⟩ | ⟨hk, c, hc, hcell⟩
  · exact wpAny_Name (wpAny_loadName_local I.ok.kind hk hn hm fin) hd
  · rcases hk with hk | hk
    · exact wpAny_Name (wpAny_loadName_cell I.ok.kind hk hc hcell fin) hd
    · exact wpAny_Name (wpAny_loadName_free I.ok.kind hk hc hcell fin hcd) hd
theorem pe_int {i j pos} : PE X (.Constant (.int i) j pos) (tC (.int i)) := fun _ _ _ H _ I h => wpAny_Constant_int ⟨.int i, H, I.tok _, ⟨_, rfl⟩, h⟩
theorem pe_bl {b j pos} : PE X (.Constant (.bool b) j pos) (tC (.bl b)) := fun _ _ _ H _ I h => Constant_bool ⟨.bl b, H, I, rfl, h⟩
theorem pe_non {j pos} : PE X (.Constant .none j pos) (tC .non) := fun _ _ _ H _ I h => Constant_none ⟨.non, H, I, rfl, h⟩
/-- a global name of the def -/
def Gl (X : Cx) (x : Str) : Prop := X.env.kindOf x = some .globalImplicit
theorem ld_glob {E : Value → Shared → Prop} {pins : List (Addr × Obj)} {s : Shared} {σ : St} {H : Hp} {x : Str} {u : Value} {pos : Pos} {Q : Value → Shared → Prop} (I : Inv X pins σ H s) (hg : Gl X x) (hm : X.mg x = some u) (h : Q u s)
    (hd : (x == ("__debug__" : Str)) = false := by decide) : wpAny (model X.prog X.w) X.A (eval (.Name x pos) X.env) Q E s :=
  Calls.Name_function_global I.ok.kind hg (Calls.loadGlobal_global (by rw [I.ok.glob]; exact I.mod.glob.keeps I.bk) hm h) hd
theorem ld_blt {E : Value → Shared → Prop} {pins : List (Addr × Obj)} {s : Shared} {σ : St} {H : Hp} {x : Str} {u : Value} {pos : Pos} {Q : Value → Shared → Prop} (I : Inv X pins σ H s) (hg : Gl X x) (hm : X.mg x = none) (hv : bootBuiltins x = some u) (h : Q u s)
    (hn : x ≠ "__name__" := by decide) (hd : (x == ("__debug__" : Str)) = false := by decide) : wpAny (model X.prog X.w) X.A (eval (.Name x pos) X.env) Q E s := by
  obtain ⟨mb, h1, h2⟩ := I.mod.blt
  exact Calls.Name_function_global I.ok.kind hg (Calls.loadGlobal_builtin (by rw [I.ok.glob]; exact I.mod.glob.keeps I.bk) hm (by rw [I.ok.blt]; exact h1.keeps I.bk) ((h2 x hn).trans hv) h) hd
theorem pe_bltn {x : Str} {v : V} {u : Value} {pos : Pos} (hg : Gl X x) (hm : X.mg x = none) (hv : bootBuiltins x = some u) (r : RelV v u) (hn : x ≠ "__name__" := by decide) (hd : (x == ("__debug__" : Str)) = false := by decide) : PE X (.Name x pos) (tC v) :=
  fun _ _ _ H _ I h => ld_blt I hg hm hv ⟨v, H, I, r, h⟩ hn hd

variable {a b : Expr} {ta tb : TE} {pos : Pos}
/-- a comparison as a value, as a test -/
def tB (t : TE) : TT := fun σ H Q => t σ H fun x H1 => ∃ c, x = .bl c ∧ Q c H1
/-- an expression whose value is a bool, as a test -/
theorem pt_val {e : Expr} {t : TE} (h : PE X e t) (he : ∀ whole, isTrue e X.env whole = (do let v ← whole; standAt e.pos; holding [v] (truthy v)) := by intro _; rfl) : PT X e (tB t) := by
  intro pins s σ H Q I hw
  refine isTrue_plain (thn (h pins s σ H _ I hw) fun v s1 ⟨x, H1, I1, r1, q1⟩ => ?_) (he _)
  obtain ⟨d, rfl, q⟩ := q1
  cases r1
  exact wpAny_truthy_bool ⟨H1, I1, q⟩

variable {tA tB' : TT} {rest : List Expr}
def tAnd (t u : TT) : TT := fun σ H Q => t σ H fun c H1 => if c = true then u σ H1 Q else Q false H1
def tOr (t u : TT) : TT := fun σ H Q => t σ H fun c H1 => if c = true then Q true H1 else u σ H1 Q
def tNot (t : TT) : TT := fun σ H Q => t σ H fun c H1 => Q (!c) H1
theorem pw_and1 (ha : PT X a tA) : PW X (.BoolOp .And [a] pos) tA := by
  intro wh pins s σ H Q I h
  refine isTrue_and (thn (ha pins s σ H Q I h) fun c s1 e => ?_)
  cases c with
  | true => exact isTrue_and_nil e
  | false => exact e
theorem pw_or1 (ha : PT X a tA) : PW X (.BoolOp .Or [a] pos) tA := by
  intro wh pins s σ H Q I h
  refine isTrue_or (thn (ha pins s σ H Q I h) fun c s1 e => ?_)
  cases c with
  | false => exact isTrue_or_nil e
  | true => exact e
theorem pw_and (ha : PT X a tA) (hb : PW X (.BoolOp .And (b :: rest) pos) tB') : PW X (.BoolOp .And (a :: b :: rest) pos) (tAnd tA tB') := by
  intro wh pins s σ H Q I h
  refine isTrue_and (thn (ha pins s σ H _ I h) fun c s1 ⟨H1, I1, q1⟩ => ?_)
  cases c with
  | true => exact hb wh pins s1 σ H1 Q I1 q1
  | false => exact ⟨H1, I1, q1⟩
theorem pw_or (ha : PT X a tA) (hb : PW X (.BoolOp .Or (b :: rest) pos) tB') : PW X (.BoolOp .Or (a :: b :: rest) pos) (tOr tA tB') := by
  intro wh pins s σ H Q I h
  refine isTrue_or (thn (ha pins s σ H _ I h) fun c s1 ⟨H1, I1, q1⟩ => ?_)
  cases c with
  | true => exact ⟨H1, I1, q1⟩
  | false => exact hb wh pins s1 σ H1 Q I1 q1
theorem pt_not (ha : PT X a tA) : PT X (.UnaryOp .Not a pos) (tNot tA) := by
  intro pins s σ H Q I h
  exact isTrue_not (ha pins s σ H (fun c H1 => Q (!c) H1) I h)
/-- .. as values (bools) -/
def tAndV (ta tb : TE) : TE := fun σ H Q => ta σ H fun x H1 => ∃ c, x = .bl c ∧ if c = true then tb σ H1 Q else Q (.bl false) H1
def tNotV (ta : TE) : TE := fun σ H Q => ta σ H fun x H1 => ∃ c, x = .bl c ∧ Q (.bl (!c)) H1
theorem pe_one {op} {t : TE} (h : PE X a t) : PE X (.BoolOp op [a] pos) t := fun pins s σ H Q I hw => BoolOp_one (h pins s σ H Q I hw)
theorem pe_and (ha : PE X a ta) (hb : PE X (.BoolOp .And (b :: rest) pos) tb) : PE X (.BoolOp .And (a :: b :: rest) pos) (tAndV ta tb) := by
  intro pins s σ H Q I h
  refine BoolOp_and (thn (ha pins s σ H _ I h) fun v s1 ⟨x, H1, I1, r1, q1⟩ => ?_)
  obtain ⟨c, rfl, q1⟩ := q1
  cases r1
  refine wpAny_truthy_bool ?_
  cases c with
  | true => exact hb pins s1 σ H1 Q I1 q1
  | false => exact ⟨.bl false, H1, I1, rfl, q1⟩
theorem pe_not (ha : PE X a ta) : PE X (.UnaryOp .Not a pos) (tNotV ta) := by
  intro pins s σ H Q I h
  refine UnaryOp_ (thn (ha pins s σ H _ I h) fun v s1 ⟨x, H1, I1, r1, q1⟩ => ?_)
  obtain ⟨c, rfl, q1⟩ := q1
  cases r1
  exact not_of (wpAny_truthy_bool ⟨.bl (!c), H1, I1, rfl, q1⟩)
/-- a if t else b -/
def tIf (t : TT) (ta tb : TE) : TE := fun σ H Q => t σ H fun c H1 => if c = true then ta σ H1 Q else tb σ H1 Q
theorem pe_ifExp {c : Expr} (hc : PT X c tA) (ha : PE X a ta) (hb : PE X b tb) : PE X (.IfExp c a b pos) (tIf tA ta tb) := by
  intro pins s σ H Q I h
  refine wpAny_IfExp (thn (hc pins s σ H _ I h) fun d s1 ⟨H1, I1, q1⟩ => ?_)
  cases d with
  | true => exact ha pins s1 σ H1 Q I1 q1
  | false => exact hb pins s1 σ H1 Q I1 q1
end
end L2

namespace L2
open PySem PySem.Spec PyProof.Rows

def SqL (K : PySem.W.Frag) (H : Hp) (a : Addr) (xs : List V) : Prop :=
  Rd H a (.lst xs) ∨
    ∃ (o : Obj) (its : Array Value) (n : Nat), K.lookup a = some o ∧ o.cls = .type "list" ∧ o.dict = none ∧ o.data = .seq its n ∧ its.size ≤ sizeLine ∧ Vals xs its.toList
def SqT (K : PySem.W.Frag) (H : Hp) (a : Addr) (xs : List V) : Prop :=
  Rd H a (.tup xs) ∨
    ∃ (o : Obj) (its : Array Value) (n : Nat), K.lookup a = some o ∧ o.cls = .type "tuple" ∧ o.data = .seq its n ∧ its.size ≤ sizeLine ∧ Vals xs its.toList
def absV : Value → Option V
  | .none => some .non
  | .bool b => some (.bl b)
  | .int i _ => some (.int i)
  | .str x _ => some (.str x)
  | .bytes b _ => some (.byt b)
  | .float b _ => some (.flt b)
  | .ref a => some (.ref a)
  | .type n => some (.ty n)
  | _ => none
theorem RelV.abs {x : V} {u : Value} (r : RelV x u) : absV u = some x := by
  cases x with
  | non => cases r; rfl
  | bl _ => cases r; rfl
  | int _ => obtain ⟨t, rfl⟩ := r; rfl
  | str _ => obtain ⟨t, rfl⟩ := r; rfl
  | byt _ => obtain ⟨t, rfl⟩ := r; rfl
  | flt _ => obtain ⟨t, rfl⟩ := r; rfl
  | ref _ => cases r; rfl
  | ty _ => cases r; rfl
theorem RelV.inj {x y : V} {u : Value} (r : RelV x u) (q : RelV y u) : x = y := Option.some.inj (r.abs.symm.trans q.abs)
theorem Vals.inj : ∀ {xs ys : List V} {us : List Value}, Vals xs us → Vals ys us → xs = ys
  | _, _, _, .nil, .nil => rfl
  | _, _, _, .cons r t, .cons r' t' => by rw [r.inj r', Vals.inj t t']
section
variable {X : Cx} {pins : List (Addr × Obj)} {σ : St} {H : Hp} {s : Shared} {a : Addr} {xs ys : List V}
theorem SqL.of {K : PySem.W.Frag} (h : H a = some (.lst xs)) : SqL K H a xs := .inl (.inl h)
theorem SqT.of {K : PySem.W.Frag} (h : H a = some (.tup xs)) : SqT K H a xs := .inl (.inl h)
theorem Inv.list (I : Inv X pins σ H s) (h : SqL X.K H a xs) : ∃ its : List Value, Vals xs its ∧ PlainL s.heap a its.toArray ∧ xs.length ≤ sizeLine := by
  rcases h with h | ⟨o, its, n, hk, hc, hd, hs, hz, r⟩
  · obtain ⟨z, its, n, r, e⟩ := h.ok I.hok
    exact ⟨its, r, ⟨_, n, e, rfl, rfl, rfl⟩, z⟩
  · refine ⟨its.toList, r, ⟨o, n, I.kIn a o hk, hc, hd, by simpa using hs⟩, ?_⟩
    have e := r.length
    simp only [Array.length_toList] at e
    omega
theorem Inv.tuple (I : Inv X pins σ H s) (h : SqT X.K H a xs) : ∃ its : List Value, Vals xs its ∧ IsTup s.heap a its.toArray ∧ xs.length ≤ sizeLine := by
  rcases h with h | ⟨o, its, n, hk, hc, hs, hz, r⟩
  · obtain ⟨z, its, r, p⟩ := h.ok I.hok
    exact ⟨its, r, p, z⟩
  · refine ⟨its.toList, r, ⟨o, I.kIn a o hk, hc, n, by simpa using hs⟩, ?_⟩
    have e := r.length
    simp only [Array.length_toList] at e
    omega
theorem Inv.list_inj (I : Inv X pins σ H s) (h : SqL X.K H a xs) (h' : SqL X.K H a ys) : xs = ys := by
  obtain ⟨its, r, ⟨o, n, e, _, _, d⟩, _⟩ := I.list h
  obtain ⟨its', r', ⟨o', n', e', _, _, d'⟩, _⟩ := I.list h'
  rw [e] at e'; cases e'
  rw [d] at d'
  injection d' with d1 _
  have : its = its' := by simpa using congrArg Array.toList d1
  subst this
  exact r.inj r'
end

abbrev Cx.wish (X : Cx) (E : Value → Shared → Prop) : Cx := { X with xe := E }
/-- no exception leaves -/
abbrev Cx.nox (X : Cx) : Cx := X.wish fun _ _ => False
theorem Cx.Ok.wish {X : Cx} (ok : X.Ok) (E : Value → Shared → Prop) : (X.wish E).Ok :=
  ⟨ok.mod, ok.kind, ok.glob, ok.blt, ok.above, ok.inj, ok.has, ok.cab, ok.hd, ok.frames, ok.stk, ok.exf, ok.bs, ok.bsz, ok.noex, ok.exfs, ok.funs, ok.frf, ok.tb⟩
theorem Cx.Ok.unwish {X : Cx} {E : Value → Shared → Prop} (ok : (X.wish E).Ok) : X.Ok :=
  ⟨ok.mod, ok.kind, ok.glob, ok.blt, ok.above, ok.inj, ok.has, ok.cab, ok.hd, ok.frames, ok.stk, ok.exf, ok.bs, ok.bsz, ok.noex, ok.exfs, ok.funs, ok.frf, ok.tb⟩
section
variable {X : Cx} {pins : List (Addr × Obj)} {σ : St} {H : Hp} {s : Shared} {E : Value → Shared → Prop}
theorem Inv.wish (I : Inv X pins σ H s) (E : Value → Shared → Prop) : Inv (X.wish E) pins σ H s := ⟨I.ok.wish E, I.os, I.bare, I.base, I.loc, I.cell, I.free, I.freeC, I.pin, I.hok, I.len⟩
theorem Inv.unwish (I : Inv (X.wish E) pins σ H s) : Inv X pins σ H s := ⟨I.ok.unwish, I.os, I.bare, I.base, I.loc, I.cell, I.free, I.freeC, I.pin, I.hok, I.len⟩
theorem SP.unwish {D : Ends} {f : Flow} {s' : Shared} (h : SP (X.wish E) pins D f s') : SP X pins D f s' := by
  cases f with
  | next => obtain ⟨σ', H', I, q⟩ := h; exact ⟨σ', H', I.unwish, q⟩
  | brk => obtain ⟨σ', H', I, q⟩ := h; exact ⟨σ', H', I.unwish, q⟩
  | cont => obtain ⟨σ', H', I, q⟩ := h; exact ⟨σ', H', I.unwish, q⟩
  | ret u => obtain ⟨v, σ', H', I, r, q⟩ := h; exact ⟨v, σ', H', I.unwish, r, q⟩
theorem PE.nox {e : Expr} {t : TE} (h : PE X.nox e t) : PE X e t := fun pins s σ H Q I hw =>
  wpAny_mono (h pins s σ H Q (I.wish _) hw) (fun _ _ ⟨v, H', I', r, q⟩ => ⟨v, H', I'.unwish, r, q⟩) fun _ _ z => False.elim z
theorem PT.nox {e : Expr} {t : TT} (h : PT X.nox e t) : PT X e t := fun pins s σ H Q I hw =>
  wpAny_mono (h pins s σ H Q (I.wish _) hw) (fun _ _ ⟨H', I', q⟩ => ⟨H', I'.unwish, q⟩) fun _ _ z => False.elim z
theorem PSs.nox {st : List Stmt} {t : TS} (h : PSs X.nox st t) : PSs X st t := fun pins s σ H D I hw =>
  wpAny_mono (h pins s σ H D (I.wish _) hw) (fun _ _ q => q.unwish) fun _ _ z => False.elim z
end

section
variable {X : Cx} {st : Stmt} {rest : List Stmt} {t u : TS} {e : Expr} {te : TE} {pos : Pos}
def tNext : TS := fun D σ H => D.nx σ H
def tSeq (t u : TS) : TS := fun D σ H => t { D with nx := u D } σ H
theorem pss_nil : PSs X [] tNext := fun _ _ σ H _ I h => wpAny_execs_nil ⟨σ, H, I, h⟩
theorem pss_cons (h1 : PS X st t) (h2 : PSs X rest u) : PSs X (st :: rest) (tSeq t u) := by
  intro pins s σ H D I h
  refine wpAny_execs_cons (thn (h1 pins s σ H { D with nx := u D } I h) fun f s1 q => ?_)
  cases f with
  | next =>
    obtain ⟨σ', H', I', q⟩ := q
    exact h2 pins s1 σ' H' D I' q
  | ret v => exact q
  | brk => exact q
  | cont => exact q
theorem pss_one (h1 : PS X st t) : PSs X [st] t := by
  intro pins s σ H D I h
  refine wpAny_execs_cons (thn (h1 pins s σ H D I h) fun f s1 q => ?_)
  cases f with
  | next => exact wpAny_execs_nil q
  | ret v => exact q
  | brk => exact q
  | cont => exact q
/-- in a def's body nothing is shown -/
theorem Inv.quiet {pins : List (Addr × Obj)} {σ : St} {H : Hp} {s : Shared} (I : Inv X pins σ H s) : interactive X.env = false := by simp [interactive, I.ok.kind]
/-- an expression whose value is dropped -/
def tDrop (te : TE) : TS := fun D σ H => te σ H fun _ H1 => D.nx σ H1
theorem ps_expr (he : PE X e te) (hs : swapsWith e none pos.line X.env = pure false := by rfl) : PS X (.Expr e pos) (tDrop te) := by
  intro pins s σ H D I h
  exact wpAny_Expr_any (thn (he pins s σ H _ I h) fun v s1 ⟨x, H1, I1, r1, q1⟩ => ⟨σ, H1, I1, q1⟩) I.quiet hs
def tRet (te : TE) : TS := fun D σ H => te σ H D.rt
theorem ps_ret (he : PE X e te) : PS X (.Return (some e) pos) (tRet te) := by
  intro pins s σ H D I h
  exact wpAny_Return_some (thn (he pins s σ H _ I h) fun v s1 ⟨x, H1, I1, r1, q1⟩ => ⟨x, σ, H1, I1, r1, q1⟩)
def tIfS (c : TT) (t u : TS) : TS := fun D σ H => c σ H fun b H1 => if b = true then t D σ H1 else u D σ H1
theorem ps_if {c : Expr} {a b : List Stmt} {tc : TT} (hc : PT X c tc) (ha : PSs X a t) (hb : PSs X b u) : PS X (.If c a b pos) (tIfS tc t u) := by
  intro pins s σ H D I h
  refine wpAny_If (thn (hc pins s σ H _ I h) fun d s1 ⟨H1, I1, q1⟩ => ?_)
  cases d with
  | true => exact ha pins s1 σ H1 D I1 q1
  | false => exact hb pins s1 σ H1 D I1 q1
/-- code that the proof never comes to -/
def tNever : TS := fun _ _ _ => False
theorem ps_never : PS X st tNever := fun _ _ _ _ _ _ h => h.elim
end

abbrev TG := V → St → Hp → (St → Hp → Prop) → Prop
abbrev TGs := List V → St → Hp → (St → Hp → Prop) → Prop
def PG (X : Cx) (target : Expr) (t : TG) : Prop :=
  ∀ (pins : List (Addr × Obj)) (s : Shared) (σ : St) (H : Hp) (v : V) (u : Value) (Q : St → Hp → Prop), Inv X pins σ H s → RelV v u → t v σ H Q →
    wpAny (model X.prog X.w) X.A (assign target X.env u) (fun _ s' => ∃ σ' H', Inv X pins σ' H' s' ∧ Q σ' H') X.xe s
/-- several targets, one after another -/
def PGs (X : Cx) (ts : List Expr) (t : TGs) : Prop :=
  ∀ (pins : List (Addr × Obj)) (s : Shared) (σ : St) (H : Hp) (vs : List V) (us : List Value) (Q : St → Hp → Prop), Inv X pins σ H s → Vals vs us → t vs σ H Q →
    wpAny (model X.prog X.w) X.A (assignInOrder ((assignEach ts X.env).map (·.2)) us) (fun _ s' => ∃ σ' H', Inv X pins σ' H' s' ∧ Q σ' H') X.xe s
/-- o[i] = v, by values -/
abbrev TSet := V → V → V → Hp → (Hp → Prop) → Prop
def PSet (X : Cx) (t : TSet) : Prop :=
  ∀ (pins : List (Addr × Obj)) (s : Shared) (σ : St) (H : Hp) (o i v : V) (ov iv u : Value) (Q : Hp → Prop), Inv X pins σ H s → RelV o ov → RelV i iv → RelV v u → t o i v H Q →
    wpAny (model X.prog X.w) X.A (setItem ov iv u) (fun _ s' => ∃ H', Inv X pins σ H' s' ∧ Q H') X.xe s
/-- a op= b, by values -/
abbrev TIp := V → V → Hp → VK → Prop
def PIp (X : Cx) (op : Operator) (t : TIp) : Prop :=
  ∀ (pins : List (Addr × Obj)) (s : Shared) (σ : St) (H : Hp) (x y : V) (v u : Value) (Q : VK), Inv X pins σ H s → RelV x v → RelV y u → t x y H Q →
    wpAny (model X.prog X.w) X.A (inplaceOp op v u) (EP X pins σ Q) X.xe s
section
variable {X : Cx} {pos : Pos}
def gName (i : Nat) : TG := fun v σ H Q => Q (σ.set i (some v)) H
theorem pg_name {i : Nat} {x : Str} (hN : X.N.Nodup) (hi : X.N[i]? = some x) (hx : Loc X.env.scope x) (hf : X.fn x = true ∨ X.env.scope.names.lookup x = some .local := by first | exact .inl rfl | exact .inr rfl | assumption) : PG X (.Name x pos) (gName i) := by
  intro pins s σ H v u Q I r h
  exact wpAny_assign_Name (store_ok I hN hi hx r (fun s' I' => ⟨_, H, I', h⟩) hf)
def gNil : TGs := fun vs σ H Q => vs = [] ∧ Q σ H
def gCons (t : TG) (u : TGs) : TGs := fun vs σ H Q => ∃ v r, vs = v :: r ∧ t v σ H fun σ' H' => u r σ' H' Q
theorem pgs_nil : PGs X [] gNil := by
  intro pins s σ H vs us Q I r h
  obtain ⟨e, h⟩ := h
  subst e
  cases r
  exact assignInOrder_nil ⟨σ, H, I, h⟩
theorem pgs_cons {e : Expr} {es : List Expr} {t : TG} {u : TGs} (h1 : PG X e t) (h2 : PGs X es u)
    (hs : (assignEach (e :: es) X.env).map (·.2) = assign e X.env :: (assignEach es X.env).map (·.2) := by rfl) : PGs X (e :: es) (gCons t u) := by
  intro pins s σ H vs us Q I r h
  obtain ⟨v, vr, e1, h⟩ := h
  subst e1
  cases r with
  | cons r rr =>
    rw [hs]
    refine assignInOrder_cons (thn (h1 pins s σ H _ _ _ I r h) fun _ s1 ⟨σ1, H1, I1, q1⟩ => ?_)
    exact h2 pins s1 σ1 H1 _ _ Q I1 rr q1
/-- (a, b, ..) = a tuple of that length -/
def gTup (K : PySem.W.Frag) (n : Nat) (t : TGs) : TG := fun v σ H Q => ∃ a xs, v = .ref a ∧ SqT K H a xs ∧ xs.length = n ∧ t xs σ H Q
theorem pg_tup {es : List Expr} {k : Nat} {t : TGs} {n : Nat} (hc : X.calm = true) (h : PGs X es t)
    (hn : (assignEach es X.env).length = n := by rfl) (hst : (assignEach es X.env).findIdx? (·.1) = none := by rfl) : PG X (.Tuple es k pos) (gTup X.K n t) := by
  intro pins s σ H v u Q I r hw
  obtain ⟨a, xs, e1, hq, hl, hw⟩ := hw
  subst e1
  cases r
  obtain ⟨its, rv, ht, hz⟩ := I.tuple hq
  refine assign_Tuple_tuple (I.ok.hd hc) ht (by simp [hn, ← hl, rv.length]) hst fun h' hx => ?_
  have I1 : Inv X pins σ H { s with heap := h' } := I.kept (t' := s.toks) fun b o e => hx b o (Nat.ne_of_lt (Heap.lt_size e)) e
  exact h pins _ σ H xs _ Q I1 (by simpa using rv) hw
/-- o[i] = .. -/
def gSub (to ti : TE) (t : TSet) : TG := fun v σ H Q => to σ H fun o H1 => ti σ H1 fun i H2 => t o i v H2 fun H3 => Q σ H3
theorem pg_sub {o i : Expr} {to ti : TE} {t : TSet} (ho : PE X o to) (hi : PE X i ti) (hs : PSet X t)
    (ha : ∀ v, assign (.Subscript o i pos) X.env v = (do
      let ov ← holding [v] (eval o X.env)
      let iv ← holding [v, ov] (eval i X.env)
      standAt pos
      holding [v, ov, iv] (setItem ov iv v)
      release [v, ov, iv] []) := by intro _; rfl) : PG X (.Subscript o i pos) (gSub to ti t) := by
  intro pins s σ H v u Q I r h
  rw [ha]
  refine wpAny_bind (wpAny_holding (thn (ho pins s σ H _ I h) fun ov s1 ⟨x, H1, I1, r1, q1⟩ => ?_))
  refine wpAny_bind (wpAny_holding (thn (hi pins s1 σ H1 _ I1 q1) fun iv s2 ⟨y, H2, I2, r2, q2⟩ => ?_))
  refine wpAny_bind (wpAny_standAt (wpAny_bind (wpAny_holding (thn (hs pins s2 σ H2 x y v ov iv u _ I2 r1 r2 r q2) fun _ s3 ⟨H3, I3, q3⟩ => ?_))))
  exact wpAny_release ⟨σ, H3, I3, q3⟩
/-- target = value -/
def tAsg (te : TE) (g : TG) : TS := fun D σ H => te σ H fun x H1 => g x σ H1 D.nx
theorem ps_asg {tg e : Expr} {te : TE} {g : TG} (he : PE X e te) (hg : PG X tg g) (hs : swapsWithSole [tg] e pos.line X.env = pure false := by rfl) (hw : swappedStores [tg] e X.env = pure none := by rfl)
    (h1 : (assignEach [tg] X.env).map (·.2) = [assign tg X.env] := by rfl) : PS X (.Assign [tg] e pos) (tAsg te g) := by
  intro pins s σ H D I h
  refine wpAny_Assign_stores (thn (he pins s σ H _ I h) fun v s1 ⟨x, H1, I1, r1, q1⟩ => ?_) hs hw
  rw [h1]
  exact thn (hg pins s1 σ H1 x v _ I1 r1 q1) fun _ s2 q => q
/-- name = value -/
theorem ps_set {i : Nat} {x : Str} {e : Expr} {te : TE} {pos' : Pos} (hN : X.N.Nodup) (hi : X.N[i]? = some x) (hx : Loc X.env.scope x) (he : PE X e te) (hs : swapsWith e (some (.Name x pos')) pos.line X.env = pure false := by rfl) (hf : X.fn x = true ∨ X.env.scope.names.lookup x = some .local := by first | exact .inl rfl | exact .inr rfl | assumption) :
    PS X (.Assign [.Name x pos'] e pos) (tAsg te (gName i)) := by
  intro pins s σ H D I h
  refine wpAny_Assign_Name (thn (he pins s σ H _ I h) fun v s1 ⟨y, H1, I1, r1, q1⟩ => ?_) hs
  exact store_ok I1 hN hi hx r1 (fun s2 I2 => ⟨_, H1, I2, q1⟩) hf
/-- name op= e -/
def tAug (i : Nat) (te : TE) (ti : TIp) : TS := fun D σ H => ∃ x, σ[i]? = some (some x) ∧ te σ H fun y H1 => ti x y H1 fun z H2 => D.nx (σ.set i (some z)) H2
theorem ps_aug {i : Nat} {x : Str} {e : Expr} {te : TE} {op : Operator} {ti : TIp} {pos' : Pos} (hN : X.N.Nodup) (hi : X.N[i]? = some x) (hx : Loc X.env.scope x) (he : PE X e te) (ho : PIp X op ti) (hf : X.fn x = true ∨ X.env.scope.names.lookup x = some .local := by first | exact .inl rfl | exact .inr rfl | assumption) :
    PS X (.AugAssign (.Name x pos') op e pos) (tAug i te ti) := by
  intro pins s σ H D I h
  obtain ⟨v, e1, h⟩ := h
  obtain ⟨m, hn, hl⟩ := I.loc
  have vis : Vis X.env.scope x := by rcases hx with k | k; exact .inl k; exact .inr (.inl k)
  obtain ⟨u, r, l⟩ := hl i x v hi e1 vis
  refine wpAny_AugAssign_Name ?_
  have go : wpAny (model X.prog X.w) X.A (eval e X.env) (fun w s₂ => wpAny (model X.prog X.w) X.A (inplaceOp op u w) (fun r s₃ => wpAny (model X.prog X.w) X.A (storeName X.env x r) (fun _ => SP X pins D .next) X.xe s₃) X.xe s₂) X.xe s := by
    refine thn (he pins s σ H _ I h) fun w s1 ⟨y, H1, I1, r1, q1⟩ => ?_
    refine thn (ho pins s1 σ H1 v y u w _ I1 r r1 q1) fun z s2 ⟨zv, H2, I2, r2, q2⟩ => ?_
    exact store_ok I2 hN hi hx r2 (fun s3 I3 => ⟨_, H2, I3, q2⟩) hf
  rcases l with ⟨hk, hm⟩ | ⟨hk, c, hc, hcell⟩
  · exact wpAny_loadName_local I.ok.kind hk hn hm go
  · rcases hk with hk | hk
    · exact wpAny_loadName_cell I.ok.kind hk hc hcell go
    · rcases hx with k | k
      · have : X.env.scope.names.lookup x = some .free := hk
        rw [k] at this; cases this
      · have : X.env.scope.names.lookup x = some .free := hk
        rw [k] at this; cases this
/-- ints -/
def ipI (f : Int → Int → Int) : TIp := fun x y H Q => ∃ i j, x = .int i ∧ y = .int j ∧ Q (.int (f i j)) H
theorem ip_add : PIp X .Add (ipI fun i j => i + j) := by
  intro pins s σ H x y v u Q I r1 r2 h
  obtain ⟨i, j, e1, e2, q⟩ := h
  subst e1; subst e2
  obtain ⟨t, rfl⟩ := r1
  obtain ⟨t', rfl⟩ := r2
  exact iadd_int ⟨.int _, H, I.tok _, ⟨_, rfl⟩, q⟩
end

section
variable {X : Cx} {pos : Pos}
/-- the invariant W with its measure -/
def tWhile (c : TT) (tb : TS) : TS := fun D σ H => ∃ W : Nat → St → Hp → Prop, (∃ m, W m σ H) ∧ ∀ m σ H, W m σ H →
  c σ H fun b H1 => if b = true then ∃ N : St → Hp → Prop, (∀ σ' H', N σ' H' → ∃ m', m' < m ∧ W m' σ' H') ∧ tb { D with nx := N, ct := N, bk := D.nx } σ H1 else D.nx σ H1
theorem ps_while {c : Expr} {body : List Stmt} {tc : TT} {tb : TS} (hp : PassesOwn (model X.prog X.w) X.A X.env X.xe) (hc : PT X c tc) (hb : PSs X body tb) : PS X (.While c body [] pos) (tWhile tc tb) := by
  intro pins s σ H D I h
  obtain ⟨W, ⟨m0, w0⟩, turn⟩ := h
  refine wpAny_While (codeAny_whileLoop (fun n s' => ∃ σ' H', Inv X pins σ' H' s' ∧ W n σ' H') ?_ m0 ⟨σ, H, I, w0⟩)
  rintro n s1 ⟨σ1, H1, I1, w1⟩
  refine wpAny_passesOwn hp (thn (hc pins s1 σ1 H1 _ I1 (turn n σ1 H1 w1)) fun b s2 ⟨H2, I2, q2⟩ => ?_)
  cases b with
  | true =>
    obtain ⟨N, hN, q2⟩ := q2
    rw [if_pos rfl]
    refine wpAny_passesOwn hp (thn (hb pins s2 σ1 H2 _ I2 q2) fun f s3 q3 => ?_)
    cases f with
    | next =>
      obtain ⟨σ3, H3, I3, n3⟩ := q3
      obtain ⟨m', hm, w3⟩ := hN σ3 H3 n3
      exact ⟨m', hm, σ3, H3, I3, w3⟩
    | cont =>
      obtain ⟨σ3, H3, I3, n3⟩ := q3
      obtain ⟨m', hm, w3⟩ := hN σ3 H3 n3
      exact ⟨m', hm, σ3, H3, I3, w3⟩
    | brk => exact q3
    | ret v => exact q3
  | false =>
    rw [if_neg Bool.false_ne_true]
    exact wpAny_execs_nil ⟨σ1, H2, I2, q2⟩
end

/-- at turn i: it yields x (the heap may grow), or it stops -/
structure It where
  go : Nat → Hp → Prop
  yld : Nat → Hp → V → Hp → Prop
  stop : Nat → Hp → Prop
/-- the iterator's own objects may turn: they are not the frame's, not pinned, younger than the entry (or a comprehension's own) -/
def FpOk (X : Cx) (pins : List (Addr × Obj)) (H : Hp) (b : Addr) : Prop :=
  H b = none ∧ b ≠ X.env.locals ∧ b ∉ X.fs ∧ (b ∈ X.ex ∨ X.s_0.heap.objs.size ≤ b) ∧ (∀ x c, X.env.cells.lookup x = some c → c ≠ b) ∧ ∀ p ∈ X.pn ++ pins, p.1 ≠ b
theorem Inv.fpOk {X : Cx} {pins : List (Addr × Obj)} {σ : St} {H H' : Hp} {s : Shared} {b : Addr} (I : Inv X pins σ H s) (hb : s.heap.objs.size ≤ b) (hn : H' b = none) : FpOk X pins H' b := by
  refine ⟨hn, Nat.ne_of_gt (Nat.lt_of_lt_of_le I.lt hb), I.nofs hb, .inr (Nat.le_trans I.sz hb), fun x c e z => ?_, fun p hp z => ?_⟩
  · obtain ⟨v, q⟩ := I.cell x c e
    exact absurd (Nat.lt_of_lt_of_le q.lt (by rw [z]; exact hb)) (Nat.lt_irrefl _)
  · exact absurd (Nat.lt_of_lt_of_le (Heap.lt_size (I.pin p hp).1) (by rw [z]; exact hb)) (Nat.lt_irrefl _)
structure Turn (P : Program) (w : World) (K : PySem.W.Frag) (tg : Expr) (J : It) (fp : List Addr) (it : Addr) (tn : Nat → Heap → Prop) : Prop where
  mem : it ∈ fp
  obj : ∀ i h, tn i h → ∀ b ∈ fp, ∃ o, h.get? b = some o ∧ ∀ v, o.data ≠ .cell v
  keep : ∀ i h h', tn i h → (∀ b ∈ fp, ∀ o, h.get? b = some o → h'.get? b = some o) → tn i h'
  item : ∀ (X : Cx), X.prog = P → X.w = w → X.K = K → X.calm = true → ∀ (i : Nat) (pins : List (Addr × Obj)) (s : Shared) (σ : St) (H : Hp) (E : Value → Shared → Prop), Inv X pins σ H s → (∀ b ∈ fp, FpOk X pins H b) → tn i s.heap → J.go i H →
    wpAny (model P w) X.A (pyNext (.ref it)) (fun r s1 => ∃ u, r = some u ∧
      wpAny (model P w) X.A (letOwnedTupleGo tg (.ref it) u) (fun _ s2 => ∃ x H', Inv X pins σ H' s2 ∧ RelV x u ∧ J.yld i H x H' ∧ tn (i + 1) s2.heap ∧ ∀ b ∈ fp, H' b = none) E s1) E s
  done : ∀ (X : Cx), X.prog = P → X.w = w → X.K = K → X.calm = true → ∀ (i : Nat) (pins : List (Addr × Obj)) (s : Shared) (σ : St) (H : Hp) (E : Value → Shared → Prop), Inv X pins σ H s → (∀ b ∈ fp, FpOk X pins H b) → tn i s.heap → J.stop i H →
    wpAny (model P w) X.A (pyNext (.ref it)) (fun r s1 => r = none ∧ Inv X pins σ H s1) E s
  self : ∀ (A : Around) (i : Nat) (s : Shared) (Q : Value → Shared → Prop) (E : Value → Shared → Prop), tn i s.heap → Q (.ref it) s → wpAny (model P w) A (pyIter (.ref it)) Q E s
abbrev TI := St → Hp → (It → Hp → Prop) → Prop
/-- an iterator has come -/
def PIE (X : Cx) (pins : List (Addr × Obj)) (σ : St) (tg : Expr) (R : It → Hp → Prop) (itv : Value) (s2 : Shared) : Prop :=
  ∃ (it : Addr) (fp : List Addr) (tn : Nat → Heap → Prop) (J : It) (H' : Hp), itv = .ref it ∧ Inv X pins σ H' s2 ∧ Turn X.prog X.w X.K tg J fp it tn ∧ tn 0 s2.heap ∧ (∀ b ∈ fp, FpOk X pins H' b) ∧ R J H'
def PI (X : Cx) (tg iter : Expr) (wi : TI) : Prop :=
  ∀ (pins : List (Addr × Obj)) (s : Shared) (σ : St) (H : Hp) (R : It → Hp → Prop), Inv X pins σ H s → wi σ H R →
    wpAny (model X.prog X.w) X.A (eval iter X.env) (fun v s1 => wpAny (model X.prog X.w) X.A (pyIter v) (PIE X pins σ tg R) X.xe s1) X.xe s

/-- the step ahead of the store is nothing for an iterator that keeps no tuple -/
theorem go_of {M : Model} {A : Around} {E : Value → Shared → Prop} {s : Shared} {tg : Expr} {it : Addr} {u : Value} {o : Obj} {n : String} {vs : Array Value} {Q : Unit → Shared → Prop} (ho : s.heap.get? it = some o) (hc : o.cls = .type n) (hd : o.data = .fields vs)
    (hn : ["enumerate", "zip", "dict_itemiterator", "dict_reverseitemiterator", "odict_iterator", "itertools.zip_longest", "itertools.pairwise"].contains n = false) (hQ : Q () s) : wpAny M A (letOwnedTupleGo tg (.ref it) u) Q E s := by
  unfold letOwnedTupleGo
  cases tg <;> first
    | exact wpAny_pure hQ
    | (cases u <;> first
        | exact wpAny_pure hQ
        | (refine wpAny_bind (wpAny_load ho ?_)
           rw [hc, hd]
           show wpAny M A (if (["enumerate", "zip", "dict_itemiterator", "dict_reverseitemiterator", "odict_iterator", "itertools.zip_longest", "itertools.pairwise"].contains n && vs[0]? == some (rawInt _)) = true then _ else _) Q E s
           rw [if_neg (by intro h; rw [hn, Bool.false_and] at h; cases h)]
           exact wpAny_pure hQ))

/-- the list at a, as it stands at each turn (a loop may append to it) -/
def Itl (K : PySem.W.Frag) (a : Addr) : It :=
  ⟨fun i H => ∃ xs x, SqL K H a xs ∧ xs[i]? = some x, fun i H x H' => H' = H ∧ ∀ xs, SqL K H a xs → xs[i]? = some x, fun i H => ∃ xs, SqL K H a xs ∧ xs.length ≤ i⟩
/-- lo, lo + 1, .. (n of them) -/
def Itr (lo : Int) (n : Nat) : It := ⟨fun i _ => i < n, fun i H x H' => H' = H ∧ x = .int (lo + i), fun i _ => n ≤ i⟩
theorem turn_list {P : Program} {w : World} {K : PySem.W.Frag} {tg : Expr} (a it : Addr) : Turn P w K tg (Itl K a) [it] it (fun i h => h.IsListIter it a i) where
  mem := by simp
  obj := fun i h st b hb => by
    have e : b = it := by simpa using hb
    subst e
    obtain ⟨o, e, c, d⟩ := st
    exact ⟨o, e, fun v z => by rw [d] at z; cases z⟩
  keep := fun i h h' st k => st.at fun o e => k it (by simp) o e
  item := by
    intro X hP hw hK hc i pins s σ H E I hf st hg
    subst hP hw hK
    obtain ⟨xs, x, hq, hx⟩ := hg
    obtain ⟨its, rv, p, hz⟩ := I.list hq
    obtain ⟨u, hu, ru⟩ := rv.get hx
    obtain ⟨f0, f1, f2, f3, f4, f5⟩ := hf it (by simp)
    refine wpAny_pyNext_list_item st p.isList (x := u) (by simpa using hu) fun h' st' sb => ?_
    have I1 : Inv X pins σ H { s with heap := h' } := I.turned (t' := s.toks) (fun b o hb e => (sb.2 b hb).trans e) f0 f1 f3 f4 f5
    obtain ⟨o, e, c, d⟩ := id st'
    exact ⟨u, rfl, go_of (s := { s with heap := h' }) e c d (by decide) ⟨x, H, I1, ru, ⟨rfl, fun ys hy => by rw [I.list_inj hy hq]; exact hx⟩, st', fun b hb => (hf b hb).1⟩⟩
  done := by
    intro X hP hw hK hc i pins s σ H E I hf st hg
    subst hP hw hK
    obtain ⟨xs, hq, hx⟩ := hg
    obtain ⟨its, rv, p, hz⟩ := I.list hq
    obtain ⟨f0, f1, f2, f3, f4, f5⟩ := hf it (by simp)
    have hl := rv.length
    exact wpAny_pyNext_list_end (I.ok.hd hc) st p.isList (by simp; omega) fun h' eb => ⟨rfl, I.turned (t' := s.toks) (fun b o hb e => eb b o hb e) f0 f1 f3 f4 f5⟩
  self := fun _ _ _ _ _ st h => wpAny_pyIter_listiter st h
theorem turn_range {P : Program} {w : World} {K : PySem.W.Frag} {tg : Expr} (it : Addr) (lo : Int) (n : Nat) : Turn P w K tg (Itr lo n) [it] it (fun i h => IsRangeIter h it (lo + (i : Nat) * 1) ((n : Int) - (i : Nat)) 1) where
  mem := by simp
  obj := fun i h st b hb => by
    have e : b = it := by simpa using hb
    subst e
    exact ⟨_, st, fun v z => by
      have z' : Data.fields _ = Data.cell v := z
      cases z'⟩
  keep := fun i h h' st k => k it (by simp) _ st
  item := by
    intro X hP hw hK hc i pins s σ H E I hf st hg
    subst hP hw hK
    obtain ⟨f0, f1, f2, f3, f4, f5⟩ := hf it (by simp)
    have W := Walks.range (prog := X.prog) (w := X.w) (I.ok.hd hc) it lo 1 n
    refine W.item i s _ _ hg st fun v h' tk hv st' kk => ?_
    obtain ⟨t, rfl⟩ := hv
    have I1 : Inv X pins σ H { s with heap := h', toks := tk } := I.turned (fun b o hb e => kk b o (by simpa using hb) e) f0 f1 f3 f4 f5
    refine ⟨_, rfl, go_of (s := { s with heap := h', toks := tk }) (n := "range_iterator") st' rfl rfl (by decide) ⟨.int (lo + i), H, I1, ⟨t, ?_⟩, ⟨rfl, rfl⟩, st', fun b hb => (hf b hb).1⟩⟩
    rw [Int.mul_one]
  done := by
    intro X hP hw hK hc i pins s σ H E I hf st hg
    subst hP hw hK
    obtain ⟨f0, f1, f2, f3, f4, f5⟩ := hf it (by simp)
    exact wpAny_pyNext_range_end (I.ok.hd hc) st (by have : n ≤ i := hg; omega) fun h' eb => ⟨rfl, I.turned (t' := s.toks) (fun b o hb e => eb b o hb e) f0 f1 f3 f4 f5⟩
  self := fun _ _ _ _ _ st h => wpAny_pyIter_rangeiter st h
end L2

namespace L2
open PySem PySem.Spec PyProof.Rows
section
variable {X : Cx} {tg : Expr}
def iList (K : PySem.W.Frag) (tl : TE) : TI := fun σ H R => tl σ H fun x H1 => ∃ a, x = .ref a ∧ (∃ xs, SqL K H1 a xs) ∧ R (Itl K a) H1
theorem pi_list {l : Expr} {tl : TE} (hl : PE X l tl) : PI X tg l (iList X.K tl) := by
  intro pins s σ H R I h
  refine thn (hl pins s σ H _ I h) fun v s1 ⟨x, H1, I1, r1, q1⟩ => ?_
  obtain ⟨a, e, ⟨xs, hq⟩, q⟩ := q1
  subst e
  cases r1
  obtain ⟨its, rv, p, hz⟩ := I1.list hq
  refine wpAny_pyIter_list p.isList ?_
  refine ⟨s1.heap.objs.size, [s1.heap.objs.size], _, _, H1, rfl, I1.kept (t' := s1.toks) fun b o e => Heap.get?_push_of_some _ e, turn_list a _, ⟨_, Heap.get?_push_size _ rfl, rfl, rfl⟩, fun b hb => ?_, q⟩
  have e : b = s1.heap.objs.size := by simpa using hb
  subst e
  exact I1.fpOk (Nat.le_refl _) (I1.hok.fresh (Nat.le_refl _))
/-- a range object just made, walked -/
theorem range_it {pins : List (Addr × Obj)} {σ : St} {H : Hp} {s : Shared} {R : It → Hp → Prop} {E : Value → Shared → Prop} {lo hi : Int} {t u v : Tok} {tk : Nat} (I : Inv X pins σ H s) (h1 : -(2 ^ 62) ≤ lo) (h2 : lo < 2 ^ 62) (h3 : -(2 ^ 62) ≤ hi) (h4 : hi < 2 ^ 62)
    (q : R (Itr lo (hi - lo).toNat) H) : wpAny (model X.prog X.w) X.A (pyIter (.ref s.heap.objs.size)) (PIE X pins σ tg R) E { s with heap := s.heap.push { cls := .type "range", data := .fields #[.int lo t, .int hi u, .int 1 v] }, toks := tk } := by
  refine wpAny_pyIter_range (IsRange.new ..) (small_one h1 h2 h3 h4) ?_
  have I1 : Inv X pins σ H { s with heap := s.heap.push { cls := .type "range", data := .fields #[.int lo t, .int hi u, .int 1 v] }, toks := tk } := I.kept fun b o e => Heap.get?_push_of_some _ e
  refine ⟨(s.heap.push { cls := .type "range", data := .fields #[.int lo t, .int hi u, .int 1 v] }).objs.size, [(s.heap.push { cls := .type "range", data := .fields #[.int lo t, .int hi u, .int 1 v] }).objs.size], _, _, H, rfl,
    I1.kept (t' := tk) fun b o e => Heap.get?_push_of_some _ e, turn_range _ lo (hi - lo).toNat, ?_, fun b hb => ?_, q⟩
  · have e1 : lo + ((0 : Nat) : Int) * 1 = lo := by simp
    have e2 : (((hi - lo).toNat : Nat) : Int) - ((0 : Nat) : Int) = Builtin.Range.rangeSize lo hi 1 := by rw [rangeSize_one]; split <;> omega
    show IsRangeIter _ _ (lo + ((0 : Nat) : Int) * 1) ((((hi - lo).toNat : Nat) : Int) - ((0 : Nat) : Int)) 1
    rw [e1, e2]
    exact Heap.get?_push_size _ rfl
  · have e : b = (s.heap.push { cls := .type "range", data := .fields #[.int lo t, .int hi u, .int 1 v] }).objs.size := by simpa using hb
    subst e
    exact I1.fpOk (Nat.le_refl _) (I1.hok.fresh (Nat.le_refl _))
def iRng1 (ta : TA) : TI := fun σ H R => ta σ H fun vs H1 => ∃ j : Int, vs = [.int j] ∧ -(2 ^ 62) ≤ j ∧ j < 2 ^ 62 ∧ R (Itr 0 j.toNat) H1
def iRng2 (ta : TA) : TI := fun σ H R => ta σ H fun vs H1 => ∃ i j : Int, vs = [.int i, .int j] ∧ (-(2 ^ 62) ≤ i ∧ i < 2 ^ 62 ∧ -(2 ^ 62) ≤ j ∧ j < 2 ^ 62) ∧ R (Itr i (j - i).toNat) H1
theorem pi_range1 {a : Expr} {ta : TA} {p pos : Pos} (hg : Gl X "range") (hm : X.mg "range" = none) (ha : PA X [a] ta) (hs : starEach [a] X.env = [(false, eval a X.env)] := by rfl) : PI X tg (.Call (.Name "range" p) [a] [] pos) (iRng1 ta) := by
  intro pins s σ H R I h
  refine Call_ (ld_blt I hg hm boot_range (PyProof.Rows.callWith_type1 (thn (ha pos pins s σ H _ I h) fun us s1 ⟨vs, H1, I1, r1, q1⟩ => ?_) hs rfl))
  obtain ⟨j, e, q1, q2, q⟩ := q1
  subst e
  cases r1 with
  | cons r rr =>
    cases rr
    obtain ⟨t, rfl⟩ := r
    exact call_range_1 (range_it I1 (by omega) (by omega) q1 q2 (by simpa using q))
theorem pi_range2 {a b : Expr} {ta : TA} {p pos : Pos} (hg : Gl X "range") (hm : X.mg "range" = none) (ha : PA X [a, b] ta) (hs : starEach [a, b] X.env = [(false, eval a X.env), (false, eval b X.env)] := by rfl) (hs2 : starEach [b] X.env = [(false, eval b X.env)] := by rfl) :
    PI X tg (.Call (.Name "range" p) [a, b] [] pos) (iRng2 ta) := by
  intro pins s σ H R I h
  refine Call_ (ld_blt I hg hm boot_range (PyProof.Rows.callWith_type1 (thn (ha pos pins s σ H _ I h) fun us s1 ⟨vs, H1, I1, r1, q1⟩ => ?_) (by rw [hs, hs2]) (by rw [hs2]; rfl)))
  obtain ⟨i, j, e, ⟨q1, q2, q3, q4⟩, q⟩ := q1
  subst e
  cases r1 with
  | cons r rr =>
    cases rr with
    | cons r' rr =>
      cases rr
      obtain ⟨t, rfl⟩ := r
      obtain ⟨t', rfl⟩ := r'
      exact call_range_2 (range_it I1 q1 q2 q3 q4 q)

/-- W: the invariant by the turn and a measure; N: what the body is to reach -/
def tFor (wi : TI) (g : TG) (tb : TS) : TS := fun D σ H => wi σ H fun J H1 => ∃ W : Nat → Nat → St → Hp → Prop, (∃ m, W 0 m σ H1) ∧ ∀ i m σ H, W i m σ H →
  (J.stop i H ∧ D.nx σ H) ∨ (J.go i H ∧ ∃ N : St → Hp → Prop, (∀ σ' H', N σ' H' → ∃ m', m' < m ∧ W (i + 1) m' σ' H') ∧ ∀ x H', J.yld i H x H' → g x σ H' fun σ2 H2 => tb { D with nx := N, ct := N, bk := D.nx } σ2 H2)
/-- the records at fp as they stand -/
def pinsAt (fp : List Addr) (h : Heap) : List (Addr × Obj) := fp.filterMap fun b => (h.get? b).map fun o => (b, o)
theorem mem_pinsAt {fp : List Addr} {h : Heap} {b : Addr} {o : Obj} (hb : b ∈ fp) (e : h.get? b = some o) : (b, o) ∈ pinsAt fp h := List.mem_filterMap.mpr ⟨b, hb, by rw [e]; rfl⟩
theorem of_pinsAt {fp : List Addr} {h : Heap} {p : Addr × Obj} (hp : p ∈ pinsAt fp h) : p.1 ∈ fp ∧ h.get? p.1 = some p.2 := by
  obtain ⟨b, hb, e⟩ := List.mem_filterMap.mp hp
  cases q : h.get? b with
  | none => rw [q] at e; cases e
  | some o =>
    rw [q] at e
    have e' : (b, o) = p := Option.some.inj e
    subst e'
    exact ⟨hb, q⟩
theorem Inv.pinned {pins : List (Addr × Obj)} {σ : St} {H : Hp} {s : Shared} {fp : List Addr} (I : Inv X pins σ H s) (hf : ∀ b ∈ fp, FpOk X pins H b) (ho : ∀ b ∈ fp, ∃ o, s.heap.get? b = some o ∧ ∀ v, o.data ≠ .cell v) : Inv X (pins ++ pinsAt fp s.heap) σ H s :=
  I.pins_of fun p hp => (List.mem_append.mp hp).elim (fun z => I.pin p (List.mem_append_right _ z)) fun z => by
    obtain ⟨hb, e⟩ := of_pinsAt z
    obtain ⟨f0, f1, f2, _⟩ := hf p.1 hb
    obtain ⟨o, e', d⟩ := ho p.1 hb
    rw [e] at e'; cases e'
    exact ⟨e, f0, f1, f2, d⟩
theorem Inv.unpinned {pins pl : List (Addr × Obj)} {σ : St} {H : Hp} {s : Shared} (I : Inv X (pins ++ pl) σ H s) : Inv X pins σ H s := I.pins_of fun p hp => I.pin p (List.mem_append_right _ (List.mem_append_left _ hp))
theorem ps_for {iter : Expr} {body : List Stmt} {wi : TI} {g : TG} {tb : TS} {pos : Pos} (hp : PassesOwn (model X.prog X.w) X.A X.env X.xe) (hc : X.calm = true) (hi : PI X tg iter wi) (hg : PG X tg g) (hb : PSs X body tb)
    (hs : ∀ x, foldedSetIterable iter X.env x = pure x := by intro _; rfl) : PS X (.For tg iter body [] pos) (tFor wi g tb) := by
  intro pins s σ H D I h
  refine wpAny_For (thn (hi pins s σ H _ I h) fun v s1 h1 => thn h1 fun itv s2 h2 => ?_) hs
  obtain ⟨it, fp, tn, J, H2, e, I2, T, st2, f2, W, ⟨m0, w0⟩, turn⟩ := h2
  subst e
  -- what stays true of the iterator's objects through the loop
  have stat : ∀ {H' : Hp}, (∀ b ∈ fp, H' b = none) → ∀ b ∈ fp, FpOk X pins H' b := fun hn b hb => ⟨hn b hb, (f2 b hb).2⟩
  refine codeAny_forLoop_any (fun n s' => ∃ i σ' H', Inv X pins σ' H' s' ∧ tn i s'.heap ∧ (∀ b ∈ fp, H' b = none) ∧ W i n σ' H') ?_ m0 ⟨0, σ, H2, I2, st2, fun b hb => (f2 b hb).1, w0⟩
  rintro n s3 ⟨i, σ3, H3, I3, st3, fr3, w3⟩
  rcases turn i n σ3 H3 w3 with ⟨stop, qn⟩ | ⟨go, N, hN, step⟩
  · refine wpAny_passesOwn hp (thn (T.done X rfl rfl rfl hc i pins s3 σ3 H3 X.xe I3 (stat fr3) st3 stop) fun r s4 ⟨hr, I4⟩ => ?_)
    subst hr
    exact wpAny_execs_nil ⟨σ3, H3, I4, qn⟩
  · refine wpAny_passesOwn hp (thn (T.item X rfl rfl rfl hc i pins s3 σ3 H3 X.xe I3 (stat fr3) st3 go) fun r s4 ⟨u, hr, h4⟩ => ?_)
    subst hr
    refine wpAny_passesOwn hp (thn h4 fun _ s5 ⟨x, H5, I5, r5, y5, st5, fr5⟩ => ?_)
    have I5' := I5.pinned (stat fr5) (T.obj _ _ st5)
    refine wpAny_passesOwn hp (thn (hg _ s5 σ3 H5 x u _ I5' r5 (step x H5 y5)) fun _ s6 ⟨σ6, H6, I6, q6⟩ => ?_)
    refine wpAny_passesOwn hp (thn (hb _ s6 σ6 H6 _ I6 q6) fun f s7 q7 => ?_)
    have again : ∀ {σ7 : St} {H7 : Hp}, Inv X (pins ++ pinsAt fp s5.heap) σ7 H7 s7 → N σ7 H7 → ∃ m, m < n ∧ ∃ i σ' H', Inv X pins σ' H' s7 ∧ tn i s7.heap ∧ (∀ b ∈ fp, H' b = none) ∧ W i m σ' H' := fun {σ7 H7} I7 n7 => by
      obtain ⟨m', hm, w7⟩ := hN σ7 H7 n7
      refine ⟨m', hm, i + 1, σ7, H7, I7.unpinned, T.keep _ _ _ st5 fun b hb o e => (I7.pin (b, o) (List.mem_append_right _ (List.mem_append_right _ (mem_pinsAt hb e)))).1, fun b hb => ?_, w7⟩
      obtain ⟨o, e, d⟩ := T.obj _ _ st5 b hb
      exact (I7.pin (b, o) (List.mem_append_right _ (List.mem_append_right _ (mem_pinsAt hb e)))).2.1
    cases f with
    | next => obtain ⟨σ7, H7, I7, n7⟩ := q7; exact again I7 n7
    | cont => obtain ⟨σ7, H7, I7, n7⟩ := q7; exact again I7 n7
    | brk => obtain ⟨σ7, H7, I7, q7⟩ := q7; exact ⟨σ7, H7, I7.unpinned, q7⟩
    | ret v => obtain ⟨x7, σ7, H7, I7, r7, q7⟩ := q7; exact ⟨x7, σ7, H7, I7.unpinned, r7, q7⟩
end

/-- over a list that the body leaves as it is -/
theorem for_list {K : PySem.W.Frag} {a : Addr} {xs : List V} {g : TG} {tb : TS} {D : Ends} {σ : St} {H : Hp} (Pv : Nat → St → Hp → Prop) (h0 : Pv 0 σ H) (hl : ∀ i σ H, i ≤ xs.length → Pv i σ H → SqL K H a xs)
    (hs : ∀ i x σ H, xs[i]? = some x → Pv i σ H → g x σ H fun σ2 H2 => tb { D with nx := Pv (i + 1), ct := Pv (i + 1), bk := D.nx } σ2 H2) (hd : ∀ σ H, Pv xs.length σ H → D.nx σ H) :
    ∃ W : Nat → Nat → St → Hp → Prop, (∃ m, W 0 m σ H) ∧ ∀ i m σ H, W i m σ H →
      ((Itl K a).stop i H ∧ D.nx σ H) ∨ ((Itl K a).go i H ∧ ∃ N : St → Hp → Prop, (∀ σ' H', N σ' H' → ∃ m', m' < m ∧ W (i + 1) m' σ' H') ∧ ∀ x H', (Itl K a).yld i H x H' → g x σ H' fun σ2 H2 => tb { D with nx := N, ct := N, bk := D.nx } σ2 H2) := by
  refine ⟨fun i m σ H => m = xs.length - i ∧ i ≤ xs.length ∧ Pv i σ H, ⟨xs.length, by simp, Nat.zero_le _, h0⟩, ?_⟩
  rintro i m σ H ⟨rfl, hi, p⟩
  have q := hl i σ H hi p
  by_cases hlt : i < xs.length
  · refine .inr ⟨⟨xs, xs[i], q, by simp [hlt]⟩, Pv (i + 1), fun σ' H' p' => ⟨xs.length - (i + 1), by omega, rfl, hlt, p'⟩, fun x H' y => ?_⟩
    obtain ⟨e, y⟩ := y
    subst e
    exact hs i x σ _ (y xs q) p
  · have e : i = xs.length := by omega
    subst e
    exact .inl ⟨⟨xs, q, Nat.le_refl _⟩, hd σ H p⟩
theorem for_range {lo : Int} {n : Nat} {g : TG} {tb : TS} {D : Ends} {σ : St} {H : Hp} (Pv : Nat → St → Hp → Prop) (h0 : Pv 0 σ H)
    (hs : ∀ i σ H, i < n → Pv i σ H → g (.int (lo + i)) σ H fun σ2 H2 => tb { D with nx := Pv (i + 1), ct := Pv (i + 1), bk := D.nx } σ2 H2) (hd : ∀ σ H, Pv n σ H → D.nx σ H) :
    ∃ W : Nat → Nat → St → Hp → Prop, (∃ m, W 0 m σ H) ∧ ∀ i m σ H, W i m σ H →
      ((Itr lo n).stop i H ∧ D.nx σ H) ∨ ((Itr lo n).go i H ∧ ∃ N : St → Hp → Prop, (∀ σ' H', N σ' H' → ∃ m', m' < m ∧ W (i + 1) m' σ' H') ∧ ∀ x H', (Itr lo n).yld i H x H' → g x σ H' fun σ2 H2 => tb { D with nx := N, ct := N, bk := D.nx } σ2 H2) := by
  refine ⟨fun i m σ H => m = n - i ∧ i ≤ n ∧ Pv i σ H, ⟨n, by simp, Nat.zero_le _, h0⟩, ?_⟩
  rintro i m σ H ⟨rfl, hi, p⟩
  by_cases hlt : i < n
  · refine .inr ⟨hlt, Pv (i + 1), fun σ' H' p' => ⟨n - (i + 1), by omega, rfl, hlt, p'⟩, fun x H' y => ?_⟩
    obtain ⟨e, y⟩ := y
    subst e y
    exact hs i σ _ hlt p
  · have e : i = n := by omega
    subst e
    exact .inl ⟨Nat.le_refl _, hd σ H p⟩
end L2

namespace L2
open PySem PySem.Spec PyProof.Rows

abbrev R2 := V → V → Hp → VK → Prop
/-- a two-place operation on values: f is binaryOp op, inplaceOp op or compareOp op -/
def OpR (X : Cx) (f : Value → Value → Sem Value) (r : R2) : Prop :=
  ∀ (pins : List (Addr × Obj)) (s : Shared) (σ : St) (H : Hp) (x y : V) (v u : Value) (Q : VK), Inv X pins σ H s → RelV x v → RelV y u → r x y H Q →
    wpAny (model X.prog X.w) X.A (f v u) (EP X pins σ Q) X.xe s
/-- a one-place operation -/
def UnR (X : Cx) (f : Value → Sem Value) (r : V → Hp → VK → Prop) : Prop :=
  ∀ (pins : List (Addr × Obj)) (s : Shared) (σ : St) (H : Hp) (x : V) (v : Value) (Q : VK), Inv X pins σ H s → RelV x v → r x H Q →
    wpAny (model X.prog X.w) X.A (f v) (EP X pins σ Q) X.xe s
/-- a call of a value that is known (a builtin, a type) with values -/
def CallR (X : Cx) (f : Value) (r : List V → Hp → VK → Prop) : Prop :=
  ∀ (pins : List (Addr × Obj)) (s : Shared) (σ : St) (H : Hp) (xs : List V) (us : List Value) (Q : VK), Inv X pins σ H s → Vals xs us → r xs H Q →
    wpAny (model X.prog X.w) X.A (call f us) (EP X pins σ Q) X.xe s
/-- a value's truth -/
def TruR (X : Cx) (r : V → Hp → (Bool → Hp → Prop) → Prop) : Prop :=
  ∀ (pins : List (Addr × Obj)) (s : Shared) (σ : St) (H : Hp) (x : V) (v : Value) (Q : Bool → Hp → Prop), Inv X pins σ H s → RelV x v → r x H Q →
    wpAny (model X.prog X.w) X.A (truthy v) (TP X pins σ Q) X.xe s

def tOp (r : R2) (ta tb : TE) : TE := fun σ H Q => ta σ H fun x H1 => tb σ H1 fun y H2 => r x y H2 Q
def tUn (r : V → Hp → VK → Prop) (ta : TE) : TE := fun σ H Q => ta σ H fun x H1 => r x H1 Q
/-- ints in, under C, and a value out -/
def rI (C : Int → Int → Prop) (g : Int → Int → V) : R2 := fun x y H Q => ∃ i j, x = .int i ∧ y = .int j ∧ C i j ∧ Q (g i j) H
def rI0 (g : Int → Int → V) : R2 := fun x y H Q => ∃ i j, x = .int i ∧ y = .int j ∧ Q (g i j) H
def rU (g : Int → V) : V → Hp → VK → Prop := fun x H Q => ∃ i, x = .int i ∧ Q (g i) H

section
variable {X : Cx} {a b c : Expr} {ta tb tc : TE} {pos : Pos}

theorem binT (ha : PE X a ta) (hb : PE X b tb) {pins : List (Addr × Obj)} {s : Shared} {σ : St} {H : Hp} {R : V → V → Hp → Prop} (I : Inv X pins σ H s)
    (h : ta σ H fun x H1 => tb σ H1 fun y H2 => R x y H2) {Q : Value → Shared → Prop} {f : Value → Value → Sem Value}
    (hf : ∀ v u s2 x y H2, Inv X pins σ H2 s2 → RelV x v → RelV y u → R x y H2 → wpAny (model X.prog X.w) X.A (f v u) Q X.xe s2) :
    wpAny (model X.prog X.w) X.A (eval a X.env) (fun v s₁ => wpAny (model X.prog X.w) X.A (eval b X.env) (fun u s₂ => wpAny (model X.prog X.w) X.A (f v u) Q X.xe s₂) X.xe s₁) X.xe s := by
  refine thn (ha pins s σ H _ I h) fun v s1 ⟨x, H1, I1, r1, q1⟩ => ?_
  refine thn (hb pins s1 σ H1 _ I1 q1) fun u s2 ⟨y, H2, I2, r2, q2⟩ => ?_
  exact hf v u s2 x y H2 I2 r1 r2 q2

theorem pe_op {op : Operator} {r : R2} (ho : OpR X (binaryOp op) r) (ha : PE X a ta) (hb : PE X b tb) : PE X (.BinOp a op b pos) (tOp r ta tb) := by
  intro pins s σ H Q I h
  exact wpAny_BinOp (binT ha hb I h fun v u s2 x y H2 I2 rx ry q => ho pins s2 σ H2 x y v u Q I2 rx ry q)
theorem pe_un {op : UnaryOp} {r : V → Hp → VK → Prop} (ho : UnR X (unaryOp op) r) (ha : PE X a ta) : PE X (.UnaryOp op a pos) (tUn r ta) := by
  intro pins s σ H Q I h
  exact UnaryOp_ (thn (ha pins s σ H _ I h) fun v s1 ⟨x, H1, I1, r1, q1⟩ => ho pins s1 σ H1 x v Q I1 r1 q1)
theorem opI {f : Value → Value → Sem Value} {C : Int → Int → Prop} {g : Int → Int → Int}
    (rule : ∀ (i j : Int) (t u : Tok) (s : Shared) (Q : Value → Shared → Prop) (E : Value → Shared → Prop), C i j → Q (.int (g i j) s.toks) { s with toks := s.toks + 1 } → wpAny (model X.prog X.w) X.A (f (.int i t) (.int j u)) Q E s) :
    OpR X f (rI C fun i j => .int (g i j)) := by
  intro pins s σ H x y v u Q I rx ry h
  obtain ⟨i, j, rfl, rfl, hc, q⟩ := h
  obtain ⟨t, rfl⟩ := rx
  obtain ⟨t', rfl⟩ := ry
  exact rule i j t t' s _ _ hc ⟨.int (g i j), H, I.tok _, ⟨_, rfl⟩, q⟩
theorem opI0 {f : Value → Value → Sem Value} {g : Int → Int → Int}
    (rule : ∀ (i j : Int) (t u : Tok) (s : Shared) (Q : Value → Shared → Prop) (E : Value → Shared → Prop), Q (.int (g i j) s.toks) { s with toks := s.toks + 1 } → wpAny (model X.prog X.w) X.A (f (.int i t) (.int j u)) Q E s) :
    OpR X f (rI0 fun i j => .int (g i j)) := by
  intro pins s σ H x y v u Q I rx ry h
  obtain ⟨i, j, rfl, rfl, q⟩ := h
  obtain ⟨t, rfl⟩ := rx
  obtain ⟨t', rfl⟩ := ry
  exact rule i j t t' s _ _ ⟨.int (g i j), H, I.tok _, ⟨_, rfl⟩, q⟩
theorem opB0 {f : Value → Value → Sem Value} {g : Int → Int → Bool}
    (rule : ∀ (i j : Int) (t u : Tok) (s : Shared) (Q : Value → Shared → Prop) (E : Value → Shared → Prop), Q (.bool (g i j)) s → wpAny (model X.prog X.w) X.A (f (.int i t) (.int j u)) Q E s) :
    OpR X f (rI0 fun i j => .bl (g i j)) := by
  intro pins s σ H x y v u Q I rx ry h
  obtain ⟨i, j, rfl, rfl, q⟩ := h
  obtain ⟨t, rfl⟩ := rx
  obtain ⟨t', rfl⟩ := ry
  exact rule i j t t' s _ _ ⟨.bl (g i j), H, I, rfl, q⟩

def CDiv (i j : Int) : Prop := 0 < j ∧ j < 1073741824
def CPow (i j : Int) : Prop := 0 ≤ j ∧ j ≤ 1000000 ∧ i.natAbs < 2 ^ 64
def CMul (i j : Int) : Prop := (-(2 ^ 64) < i ∧ i < 2 ^ 64) ∨ (-(2 ^ 64) < j ∧ j < 2 ^ 64)
theorem CMul.ok {i j : Int} (h : CMul i j) : IntMulOk i j := by
  rcases h with ⟨h1, h2⟩ | ⟨h1, h2⟩
  · exact .of_left (intBits_le_64 h1 h2)
  · exact .of_right (intBits_le_64 h1 h2)
theorem op_add : OpR X (binaryOp .Add) (rI0 fun i j => .int (i + j)) := opI0 fun _ _ _ _ _ _ _ q => add_int q
theorem op_sub : OpR X (binaryOp .Sub) (rI0 fun i j => .int (i - j)) := opI0 fun _ _ _ _ _ _ _ q => sub_int q
theorem op_mul : OpR X (binaryOp .Mult) (rI CMul fun i j => .int (i * j)) := opI fun _ _ _ _ _ _ _ hc q => mul_int q hc.ok
/-- // by a positive divisor -/
theorem op_fdiv : OpR X (binaryOp .FloorDiv) (rI CDiv fun i j => .int (i / j)) := opI fun i j _ _ _ _ _ hc q => by
  have h1 : (0 : Int) < j := hc.1
  have h2 : j < 1073741824 := hc.2
  exact floordiv_int (by omega) (by rw [Int.fdiv_eq_ediv_of_nonneg i (by omega)]; exact q) (.inl (PyProof.noPylong_small (by omega)))
/-- % by a positive divisor of any size -/
theorem op_mod : OpR X (binaryOp .Mod) (rI (fun _ j => 0 < j) fun i j => .int (i % j)) := opI fun i j _ _ _ _ _ hc q => by
  have h1 : (0 : Int) < j := hc
  exact mod_int' (by omega) (by rw [Int.fmod_eq_emod_of_nonneg i (by omega)]; exact q)
theorem op_pow : OpR X (binaryOp .Pow) (rI CPow fun i j => .int (i ^ j.toNat)) := opI fun _ _ _ _ _ _ _ hc q => pow_int_small hc.1 hc.2.1 hc.2.2 q
theorem unI {f : Value → Sem Value} {g : Int → Int}
    (rule : ∀ (i : Int) (t : Tok) (s : Shared) (Q : Value → Shared → Prop) (E : Value → Shared → Prop), Q (.int (g i) s.toks) { s with toks := s.toks + 1 } → wpAny (model X.prog X.w) X.A (f (.int i t)) Q E s) :
    UnR X f (rU fun i => .int (g i)) := by
  intro pins s σ H x v Q I rx h
  obtain ⟨i, rfl, q⟩ := h
  obtain ⟨t, rfl⟩ := rx
  exact rule i t s _ _ ⟨.int (g i), H, I.tok _, ⟨_, rfl⟩, q⟩
theorem un_neg : UnR X (unaryOp .USub) (rU fun i => .int (-i)) := unI fun _ _ _ _ _ q => neg_int q
end

/-- the scalars that == tells apart as data does -/
def scal : V → V → Bool
  | .non, .non => true | .non, .int _ => true | .int _, .non => true | .non, .bl _ => true | .bl _, .non => true | .non, .str _ => true | .str _, .non => true
  | .int _, .int _ => true | .bl _, .bl _ => true | .str _, .str _ => true | .byt _, .byt _ => true
  | .int _, .str _ => true | .str _, .int _ => true | .bl _, .str _ => true | .str _, .bl _ => true
  | _, _ => false
def rEq : R2 := fun x y H Q => scal x y = true ∧ Q (.bl (decide (x = y))) H
def rNe : R2 := fun x y H Q => scal x y = true ∧ Q (.bl (!decide (x = y))) H

theorem dec_int {i j : Int} : decide (V.int i = V.int j) = (i == j) := by
  rw [Bool.eq_iff_iff]
  simp
theorem dec_bl {i j : Bool} : decide (V.bl i = V.bl j) = (i == j) := by
  rw [Bool.eq_iff_iff]
  simp
theorem dec_str {i j : Str} : decide (V.str i = V.str j) = (i == j) := by
  rw [Bool.eq_iff_iff]
  simp
theorem dec_byt {i j : Array UInt8} : decide (V.byt i = V.byt j) = (i.toList == j.toList) := by
  rw [Bool.eq_iff_iff]
  cases i
  cases j
  simp

section
variable {X : Cx} {a b c : Expr} {ta tb tc : TE} {pos : Pos}
theorem fin_bl {pins : List (Addr × Obj)} {σ : St} {H : Hp} {s : Shared} {Q : VK} {k k' : Bool} (I : Inv X pins σ H s) (q : Q (.bl k) H) (e : k = k') : EP X pins σ Q (.bool k') s := by
  subst e
  exact ⟨.bl k, H, I, rfl, q⟩
theorem op_eq : OpR X (compareOp .Eq) rEq := by
  intro pins s σ H x y v u Q I rx ry h
  obtain ⟨hs, q⟩ := h
  cases x with
  | non =>
    cases rx
    cases y with
    | non => cases ry; exact PySem.EqNone.eq_none_none (fin_bl I q (by simp))
    | bl j => cases ry; exact PySem.EqNone.eq_none_bool (fin_bl I q (by simp))
    | int j => obtain ⟨t', rfl⟩ := ry; exact PySem.EqNone.eq_none_int (fin_bl I q (by simp))
    | str j => obtain ⟨t', rfl⟩ := ry; exact PySem.EqNone.eq_none_str (fin_bl I q (by simp))
    | _ => exact absurd (show false = true from hs) Bool.false_ne_true
  | bl i =>
    cases rx
    cases y with
    | non => cases ry; exact PySem.EqNone.eq_bool_none (fin_bl I q (by simp))
    | bl j => cases ry; exact eq_bool (fin_bl I q dec_bl)
    | str j => obtain ⟨t', rfl⟩ := ry; exact PySem.EqMixed.eq_bool_str (fin_bl I q (by simp))
    | _ => exact absurd (show false = true from hs) Bool.false_ne_true
  | int i =>
    obtain ⟨t, rfl⟩ := rx
    cases y with
    | non => cases ry; exact PySem.EqNone.eq_int_none (fin_bl I q (by simp))
    | int j => obtain ⟨t', rfl⟩ := ry; exact eq_int (fin_bl I q dec_int)
    | str j => obtain ⟨t', rfl⟩ := ry; exact PySem.EqMixed.eq_int_str (fin_bl I q (by simp))
    | _ => exact absurd (show false = true from hs) Bool.false_ne_true
  | str i =>
    obtain ⟨t, rfl⟩ := rx
    cases y with
    | non => cases ry; exact PySem.EqNone.eq_str_none (fin_bl I q (by simp))
    | bl j => cases ry; exact PySem.EqMixed.eq_str_bool (fin_bl I q (by simp))
    | int j => obtain ⟨t', rfl⟩ := ry; exact PySem.EqMixed.eq_str_int (fin_bl I q (by simp))
    | str j => obtain ⟨t', rfl⟩ := ry; exact eq_str (fin_bl I q dec_str)
    | _ => exact absurd (show false = true from hs) Bool.false_ne_true
  | byt i =>
    obtain ⟨t, rfl⟩ := rx
    cases y with
    | byt j => obtain ⟨t', rfl⟩ := ry; exact PySem.W.eq_bytes (fin_bl I q dec_byt)
    | _ => exact absurd (show false = true from hs) Bool.false_ne_true
  | _ => cases y <;> exact absurd (show false = true from hs) Bool.false_ne_true
theorem op_ne : OpR X (compareOp .NotEq) rNe := by
  intro pins s σ H x y v u Q I rx ry h
  obtain ⟨hs, q⟩ := h
  cases x with
  | non =>
    cases rx
    cases y with
    | non => cases ry; exact PySem.EqNone.ne_none_none (fin_bl I q (by simp))
    | bl j => cases ry; exact PySem.EqNone.ne_none_bool (fin_bl I q (by simp))
    | int j => obtain ⟨t', rfl⟩ := ry; exact PySem.EqNone.ne_none_int (fin_bl I q (by simp))
    | str j => obtain ⟨t', rfl⟩ := ry; exact PySem.EqNone.ne_none_str (fin_bl I q (by simp))
    | _ => exact absurd (show false = true from hs) Bool.false_ne_true
  | bl i =>
    cases rx
    cases y with
    | non => cases ry; exact PySem.EqNone.ne_bool_none (fin_bl I q (by simp))
    | bl j => cases ry; exact ne_bool (fin_bl I q (congrArg not dec_bl))
    | str j => obtain ⟨t', rfl⟩ := ry; exact PySem.EqMixed.ne_bool_str (fin_bl I q (by simp))
    | _ => exact absurd (show false = true from hs) Bool.false_ne_true
  | int i =>
    obtain ⟨t, rfl⟩ := rx
    cases y with
    | non => cases ry; exact PySem.EqNone.ne_int_none (fin_bl I q (by simp))
    | int j => obtain ⟨t', rfl⟩ := ry; exact ne_int (fin_bl I q (congrArg not dec_int))
    | str j => obtain ⟨t', rfl⟩ := ry; exact PySem.EqMixed.ne_int_str (fin_bl I q (by simp))
    | _ => exact absurd (show false = true from hs) Bool.false_ne_true
  | str i =>
    obtain ⟨t, rfl⟩ := rx
    cases y with
    | non => cases ry; exact PySem.EqNone.ne_str_none (fin_bl I q (by simp))
    | bl j => cases ry; exact PySem.EqMixed.ne_str_bool (fin_bl I q (by simp))
    | int j => obtain ⟨t', rfl⟩ := ry; exact PySem.EqMixed.ne_str_int (fin_bl I q (by simp))
    | str j => obtain ⟨t', rfl⟩ := ry; exact ne_str (fin_bl I q (congrArg not dec_str))
    | _ => exact absurd (show false = true from hs) Bool.false_ne_true
  | byt i =>
    obtain ⟨t, rfl⟩ := rx
    cases y with
    | byt j => obtain ⟨t', rfl⟩ := ry; exact PySem.W.ne_bytes (fin_bl I q (congrArg not dec_byt))
    | _ => exact absurd (show false = true from hs) Bool.false_ne_true
  | _ => cases y <;> exact absurd (show false = true from hs) Bool.false_ne_true

theorem op_lt : OpR X (compareOp .Lt) (rI0 fun i j => .bl (decide (i < j))) := opB0 fun _ _ _ _ _ _ _ q => lt_int q
theorem op_le : OpR X (compareOp .LtE) (rI0 fun i j => .bl (decide (i ≤ j))) := opB0 fun _ _ _ _ _ _ _ q => le_int q
theorem op_gt : OpR X (compareOp .Gt) (rI0 fun i j => .bl (decide (j < i))) := opB0 fun _ _ _ _ _ _ _ q => gt_int q
theorem op_ge : OpR X (compareOp .GtE) (rI0 fun i j => .bl (decide (j ≤ i))) := opB0 fun _ _ _ _ _ _ _ q => ge_int q
/-- two rules for one operation: by cases -/
theorem OpR.or {f : Value → Value → Sem Value} {r r' : R2} (h : OpR X f r) (h' : OpR X f r') : OpR X f (fun x y H Q => r x y H Q ∨ r' x y H Q) := by
  intro pins s σ H x y v u Q I rx ry q
  rcases q with q | q
  · exact h pins s σ H x y v u Q I rx ry q
  · exact h' pins s σ H x y v u Q I rx ry q

theorem nomark (b : Expr) {op : CmpOp} (h : op ≠ .In := by decide) (h2 : op ≠ .NotIn := by decide) : behindInMarks op b = false := by
  have e1 : (op == CmpOp.In) = false := by cases op <;> first | rfl | exact absurd rfl h
  have e2 : (op == CmpOp.NotIn) = false := by cases op <;> first | rfl | exact absurd rfl h2
  cases b <;> simp [behindInMarks, e1, e2]
/-- a comparison as a value; hm: nomark b, or (for in, not in) by with_unfolding_all rfl -/
theorem pe_cmpR {op : CmpOp} {r : R2} (ho : OpR X (compareOp op) r) (ha : PE X a ta) (hb : PE X b tb) (hm : behindInMarks op b = false) : PE X (.Compare a [op] [b] pos) (tOp r ta tb) := by
  intro pins s σ H Q I h
  exact wpAny_Compare1 (binT ha hb I h fun v u s2 x y H2 I2 rx ry q => ho pins s2 σ H2 x y v u Q I2 rx ry q) hm
/-- a reading of a value as a test -/
def tTest (t : TE) : TT := fun σ H Q => t σ H fun x H' => ∃ k, x = .bl k ∧ Q k H'
theorem pt_cmpR {op : CmpOp} {r : R2} (ho : OpR X (compareOp op) r) (ha : PE X a ta) (hb : PE X b tb) (hm : behindInMarks op b = false) : PT X (.Compare a [op] [b] pos) (tTest (tOp r ta tb)) := by
  intro pins s σ H Q I h
  refine wpAny_isTrue_Compare1 (thn (ha pins s σ H _ I h) fun v s1 ⟨x, H1, I1, r1, q1⟩ => thn (hb pins s1 σ H1 _ I1 q1) fun u s2 ⟨y, H2, I2, r2, q2⟩ =>
    thn (ho pins s2 σ H2 x y v u _ I2 r1 r2 q2) fun c s3 ⟨z, H3, I3, r3, k, e, q3⟩ => ?_) hm
  subst e
  cases r3
  exact wpAny_truthy_bool ⟨H3, I3, q3⟩
/-- a value's truth by the abstract heap -/
def TruV (K : PySem.W.Frag) (x : V) (H : Hp) (k : Bool) : Prop :=
  match x with
  | .non => k = false
  | .bl b => k = b
  | .int i => k = (i != 0)
  | .str y => y.length ≤ sizeLine ∧ k = ((y.length : Int) != 0)
  | .byt y => y.size ≤ sizeLine ∧ k = ((y.size : Int) != 0)
  | .ref p => (∃ xs, SqL K H p xs ∧ k = !xs.isEmpty) ∨ (∃ xs, SqT K H p xs ∧ k = !xs.isEmpty) ∨ ∃ kvs, H p = some (.dK kvs) ∧ k = !kvs.isEmpty
  | _ => False
theorem isEmpty_kv {κ : Type} {kvs : List (κ × V)} {vs : List (κ × Value)} (r : KV kvs vs) : (!vs.isEmpty) = !kvs.isEmpty := by
  cases r <;> rfl
theorem isEmpty_of {xs : List V} {its : List Value} (r : Vals xs its) : (!its.toArray.isEmpty) = !xs.isEmpty := by
  cases r <;> simp
theorem line63 : (sizeLine : Nat) < 2 ^ 63 := by rw [sizeLine_eq]; decide
theorem tru_ok : TruR X (fun x H Q => ∃ k, TruV X.K x H k ∧ Q k H) := by
  intro pins s σ H x v Q I rx h
  obtain ⟨k, e, q⟩ := h
  have hl := line63
  have hs : sizeLine = 16777216 := sizeLine_eq
  cases x with
  | non =>
    cases rx
    have e' : k = false := e
    subst e'
    exact truthy_none ⟨H, I, q⟩
  | bl b =>
    cases rx
    have e' : k = b := e
    subst e'
    exact wpAny_truthy_bool ⟨H, I, q⟩
  | int i =>
    obtain ⟨t, rfl⟩ := rx
    have e' : k = (i != 0) := e
    subst e'
    exact PySem.P.truthy_int ⟨H, I, q⟩
  | str y =>
    obtain ⟨t, rfl⟩ := rx
    obtain ⟨hy, e'⟩ : y.length ≤ sizeLine ∧ k = ((y.length : Int) != 0) := e
    subst e'
    exact PySem.P.truthy_str (by omega) ⟨H, I.tok _, q⟩
  | byt y =>
    obtain ⟨t, rfl⟩ := rx
    obtain ⟨hy, e'⟩ : y.size ≤ sizeLine ∧ k = ((y.size : Int) != 0) := e
    subst e'
    exact PySem.W.truthy_bytes (by omega) ⟨H, I.tok _, q⟩
  | ref p =>
    cases rx
    have e' : (∃ xs, SqL X.K H p xs ∧ k = !xs.isEmpty) ∨ (∃ xs, SqT X.K H p xs ∧ k = !xs.isEmpty) ∨ ∃ kvs, H p = some (.dK kvs) ∧ k = !kvs.isEmpty := e
    rcases e' with ⟨xs, hx, e'⟩ | ⟨xs, hx, e'⟩ | ⟨kvs, hx, e'⟩
    · subst e'
      obtain ⟨its, r, pl, hz⟩ := I.list hx
      have hlen := r.length
      exact wpAny_truthy_list pl.isList (by simp only [List.size_toArray]; omega) ⟨H, I.tok _, by rw [isEmpty_of r]; exact q⟩
    · subst e'
      obtain ⟨its, r, pl, hz⟩ := I.tuple hx
      have hlen := r.length
      exact truthy_tuple pl (by simp only [List.size_toArray]; omega) ⟨H, I.tok _, by rw [isEmpty_of r]; exact q⟩
    · subst e'
      obtain ⟨hz, hS, vs, r, m⟩ : kvs.length ≤ sizeLine ∧ (p == sysModules) = false ∧ ∃ vs, KV kvs vs ∧ s.heap.DictOf (mixKind X.prog X.w) p vs := I.hok p _ hx
      have hlen : kvs.length = vs.length := Paired.length r
      exact wpAny_truthy_dict hS m (by omega) ⟨H, I.tok _, by rw [isEmpty_kv r]; exact q⟩
  | _ => exact (show False from e).elim
/-- any expression whose test is its value's truth (a name, a call, a subscript, a field ..: he by fun _ => rfl) -/
theorem pt_truth (ha : PE X a ta) (he : ∀ whole, isTrue a X.env whole = (do let v ← whole; standAt a.pos; holding [v] (truthy v))) :
    PT X a (fun σ H Q => ta σ H fun x H' => ∃ k, TruV X.K x H' k ∧ Q k H') := by
  intro pins s σ H Q I h
  exact isTrue_plain (thn (ha pins s σ H _ I h) fun v s1 ⟨x, H1, I1, r1, q1⟩ => tru_ok pins s1 σ H1 x v Q I1 r1 q1) (he _)

theorem vals1 {x : V} {us : List Value} (r : Vals [x] us) : ∃ u, us = [u] ∧ RelV x u := by
  cases r with
  | cons r1 r2 => cases r2; exact ⟨_, rfl, r1⟩
theorem vals2 {x y : V} {us : List Value} (r : Vals [x, y] us) : ∃ u w', us = [u, w'] ∧ RelV x u ∧ RelV y w' := by
  cases r with
  | cons r1 r2 =>
    cases r2 with
    | cons r3 r4 => cases r4; exact ⟨_, _, rfl, r1, r3⟩
theorem call_min2 (hc : X.calm = true) : CallR X (.builtin "min") (fun xs H Q => ∃ i j, xs = [.int i, .int j] ∧ Q (.int (if j < i then j else i)) H) := by
  intro pins s σ H xs us Q I r h
  obtain ⟨i, j, rfl, q⟩ := h
  obtain ⟨u, w', rfl, ⟨t, rfl⟩, ⟨t', rfl⟩⟩ := vals2 r
  refine min_two_ints (I.ok.hd hc) fun h' tk k => ⟨_, H, I.kept k, ?_, q⟩
  by_cases hj : j < i
  · rw [if_pos hj, if_pos hj]; exact ⟨_, rfl⟩
  · rw [if_neg hj, if_neg hj]; exact ⟨_, rfl⟩
theorem call_int1 : CallR X (.type "int") (fun xs H Q => (∃ i, xs = [.int i] ∧ Q (.int i) H) ∨ ∃ k, xs = [.bl k] ∧ Q (.int (if k then 1 else 0)) H) := by
  intro pins s σ H xs us Q I r h
  rcases h with ⟨i, rfl, q⟩ | ⟨k, rfl, q⟩
  · obtain ⟨u, rfl, t, rfl⟩ := vals1 r
    exact call_int_int ⟨.int i, H, I, ⟨_, rfl⟩, q⟩
  · obtain ⟨u, rfl, r1⟩ := vals1 r
    cases r1
    exact call_int_bool ⟨.int (if k then 1 else 0), H, I.tok _, ⟨_, rfl⟩, q⟩
end
end L2

namespace L2
open PySem PySem.Spec PyProof.Rows

structure ObjM (h : Heap) (x dx C : Addr) (mA : Str → Option Value) : Prop where
  obj : h.get? x = some (PySem.W.instObj C dx)
  ns : h.Ns1 dx mA
  ne : dx ≠ x

theorem lookIn_ns {h : Heap} {dx : Addr} {mA : Str → Option Value} (n : h.Ns1 dx mA) : ∃ od, h.get? dx = some od ∧ ∀ name, PySem.W.lookIn name od = some (mA name) := by
  obtain ⟨o, es, ep, ho, hd, hk, _, hm⟩ := n
  refine ⟨o, ho, fun name => ?_⟩
  have e := hm name
  unfold nsFind findBy at e
  rw [← Array.find?_toList] at e
  unfold PySem.W.lookIn
  rw [hd]
  dsimp only
  split
  · rename_i y q
    rw [q] at e
    exact congrArg some e
  · rename_i q
    rw [q] at e
    have a : es.toList.any (·.refKey) = false := by
      rw [List.any_eq_false]
      intro y hy
      obtain ⟨z, t, hkey⟩ := hk y (Array.mem_toList_iff.mp hy)
      simp [DictEntry.refKey, hkey]
    have a' : ¬ es.toList.any (·.refKey) = true := by rw [a]; exact Bool.false_ne_true
    rw [if_neg a']
    exact congrArg some e

theorem ObjM.look {h : Heap} {x dx C : Addr} {mA : Str → Option Value} (I : ObjM h x dx C mA) : ∃ od, PySem.W.InstAt h x (PySem.W.instObj C dx) C (some od) ∧ ∀ name, PySem.W.lookIn name od = some (mA name) :=
  let ⟨od, ho, hl⟩ := lookIn_ns I.ns
  ⟨od, ⟨I.obj, rfl, rfl, ho⟩, hl⟩

section
variable {prog : Program} {w : World} {A : Around} {E : Value → Shared → Prop} {s : Shared} {K : PySem.W.Frag} {x dx C f : Addr} {mA : Str → Option Value} {name : Str} {v : Value}

end

section
variable {P : Program} {w : World} {H H' : Hp} {h h' : Heap} {a C dx : Addr} {fs fs' : List (Str × V)}
theorem ins_get (hok : HOk P w H h) (e : H a = some (.ins C dx fs)) : ∃ mA, ObjM h a dx C mA ∧ (∀ f, RelO (fs.lookup f) (mA f)) ∧ PySem.Within mA (fs.map (·.1)) ∧ fs.length ≤ 1000 ∧ H dx = some (.own a) := by
  obtain ⟨d, z, ne, ob, mA, n, r, q⟩ := (show ObjOk P w H h a (.ins C dx fs) from hok a _ e)
  exact ⟨mA, ⟨ob, n, ne⟩, r, q, z, d⟩
end

structure Cls (K : PySem.W.Frag) (C : Addr) : Prop where
  pg : PySem.W.plainGet K C Str.empty = true
  hd : PySem.W.hasDictIn K C = true
  po : PySem.W.plainOver K C = true
  sa : PySem.W.findIn K (.ref C) "__setattr__" = some (some (.builtin "object.__setattr__"))
theorem Cls.get {K : PySem.W.Frag} {C : Addr} (c : Cls K C) (f : Str) : PySem.W.plainGet K C f = true := c.pg
/-- a constant of the class -/
structure Con (K : PySem.W.Frag) (C : Addr) (f : Str) (v : V) (u : Value) : Prop where
  at_ : PySem.W.findIn K (.ref C) f = some (some u)
  rel : RelV v u
  get : PySem.W.specialIn K u "__get__" = some none
  cp : PySem.W.copiedNames.contains f = false
/-- a method: a plain def of the class or of one above it -/
structure Meth (K : PySem.W.Frag) (C : Addr) (m : Str) (f : Addr) : Prop where
  at_ : PySem.W.findIn K (.ref C) m = some (some (.ref f))
  fn : PySem.W.isFn K (.ref f) = true
  kp : PySem.W.keepIn K (.ref f) = true

section
variable {X : Cx} {pins : List (Addr × Obj)} {σ : St} {H : Hp} {s : Shared} {a C dx : Addr} {fs : List (Str × V)} {f : Str} {v : V} {A : Around} {E : Value → Shared → Prop}

/-- a new instance, tracked, without attributes -/
theorem Inv.made (I : Inv X pins σ H s) : Inv X pins σ (upd (upd H s.heap.objs.size (.own (s.heap.objs.size + 1))) (s.heap.objs.size + 1) (.ins C s.heap.objs.size []))
    { s with heap := (s.heap.push PySem.W.emptyDict).push (PySem.W.instObj C s.heap.objs.size) } := by
  have e1 : (s.heap.push PySem.W.emptyDict).get? s.heap.objs.size = some PySem.W.emptyDict := Heap.get?_push_size s.heap rfl
  have e2 : ((s.heap.push PySem.W.emptyDict).push (PySem.W.instObj C s.heap.objs.size)).get? (s.heap.objs.size + 1) = some (PySem.W.instObj C s.heap.objs.size) := by
    have := Heap.get?_push_size (s.heap.push PySem.W.emptyDict) (o := PySem.W.instObj C s.heap.objs.size) rfl
    rwa [Heap.size_push] at this
  have e3 : (s.heap.push PySem.W.emptyDict).Ns s.heap.objs.size (fun _ => none) := ⟨PySem.W.emptyDict, #[], _, e1, rfl, (fun e he => absurd he (by simp)), fun _ => rfl⟩
  have I1 := I.laid (a := s.heap.objs.size) (o := .own (s.heap.objs.size + 1)) (h' := s.heap.push PySem.W.emptyDict) (t' := s.toks) (fun b u q => Heap.get?_push_of_some _ q) (Nat.le_refl _) ⟨_, e1⟩
  refine I1.laid (a := s.heap.objs.size + 1) (o := .ins C s.heap.objs.size []) (t' := s.toks) (fun b u q => Heap.get?_push_of_some _ q) (Nat.le_of_eq (Heap.size_push _ _)) ?_
  have ne : s.heap.objs.size ≠ s.heap.objs.size + 1 := Nat.ne_of_lt (Nat.lt_succ_self _)
  refine ⟨by rw [upd_ne ne, upd_same], Nat.zero_le _, ne, e2, fun _ => none, (Heap.Ns1.of_empty e3).at fun o q => Heap.get?_push_of_some _ q, fun _ => True.intro, fun y hy => absurd rfl hy⟩

end

section
variable {X : Cx} {o e value : Expr} {f : Str} {pos pos' tpos : Pos} {ta tv : TE}
end

section
variable {X : Cx} {pins : List (Addr × Obj)} {σ : St} {H : Hp} {s : Shared} {A : Around} {E : Value → Shared → Prop} {Q : Value → Shared → Prop} {c : Value} {b : Bool}
/-- the type of a value, as the fragment's deciders take it; for an instance its class -/
inductive TyOf (K : PySem.W.Frag) (H : Hp) : V → Value → Prop where
  | non : TyOf K H .non (.type "NoneType")
  | bl (x : Bool) : TyOf K H (.bl x) (.type "bool")
  | int (i : Int) : TyOf K H (.int i) (.type "int")
  | str (x : Str) : TyOf K H (.str x) (.type "str")
  | flt (x : UInt64) : TyOf K H (.flt x) (.type "float")
  | lst {a : Addr} {xs : List V} (e : H a = some (.lst xs)) : TyOf K H (.ref a) (.type "list")
  | frz {a : Addr} {o : Obj} {xs : List V} (e : H a = some (.frz o (.lst xs))) : TyOf K H (.ref a) (.type "list")
  | tup {a : Addr} {xs : List V} (e : H a = some (.tup xs)) : TyOf K H (.ref a) (.type "tuple")
  | dK {a : Addr} {kvs : List (Key × V)} (e : H a = some (.dK kvs)) : TyOf K H (.ref a) (.type "dict")
  | dT {a : Addr} {kvs : List (List Key × V)} (e : H a = some (.dT kvs)) : TyOf K H (.ref a) (.type "dict")
  | ins {a C dx : Addr} {fs : List (Str × V)} (e : H a = some (.ins C dx fs)) (cl : Cls K C) (ha : PySem.W.findIn K (.ref C) "__class__" = some (some (.builtin "object.__class__")))
      (hn : PySem.W.specialIn K (.builtin "object.__class__") "__get__" = some (some (.builtin "getset_descriptor.__get__"))) (htk : PySem.W.takesIn K (.builtin "object.__class__") = some true)
      (hm : PySem.W.mroIn K C (.type "object") = some true) : TyOf K H (.ref a) (.ref C)
/-- isinstance(x, c) for one class c, a built-in or an own one: kitOne's answer -/
theorem isinst_ok {x : V} {u t : Value} (I : Inv X pins σ H s) (rx : RelV x u) (ty : TyOf X.K H x t) (e : PySem.W.kitOne X.K t c = some b) (h : ∀ tk, Q (.bool b) { s with toks := tk }) :
    wpAny (model X.prog X.w) A (call (.builtin "isinstance") [u, c]) Q E s := by
  cases ty with
  | non => cases (show u = Value.none from rx); exact PySem.W.kia_one PySem.W.kitx_none I.kIn True.intro e (fun z => nomatch z) h
  | bl y => cases (show u = Value.bool y from rx); exact PySem.W.kia_one PySem.W.kitx_bool I.kIn True.intro e (fun z => nomatch z) h
  | int i => obtain ⟨t, q⟩ := (show ∃ t, u = Value.int i t from rx); cases q; exact PySem.W.kia_one PySem.W.kitx_int I.kIn True.intro e (fun z => nomatch z) h
  | str y => obtain ⟨t, q⟩ := (show ∃ t, u = Value.str y t from rx); cases q; exact PySem.W.kia_one PySem.W.kitx_str I.kIn True.intro e (fun z => nomatch z) h
  | flt y => obtain ⟨t, q⟩ := (show ∃ t, u = Value.float y t from rx); cases q; exact PySem.W.kia_one PySem.W.kitx_float I.kIn True.intro e (fun z => nomatch z) h
  | @lst a xs ea =>
    cases (show u = Value.ref a from rx)
    obtain ⟨_, _, n, _, h1⟩ := (show ObjOk X.prog X.w H s.heap a (.lst xs) from I.hok a _ ea)
    exact PySem.W.kia_one PySem.W.kitx_list I.kIn ⟨_, h1, rfl⟩ e (fun z => nomatch z) h
  | @frz a ob xs ea =>
    cases (show u = Value.ref a from rx)
    obtain ⟨_, _, _, n, _, h1⟩ := (show ObjOk X.prog X.w H s.heap a (.frz ob (.lst xs)) from I.hok a _ ea)
    exact PySem.W.kia_one PySem.W.kitx_list I.kIn ⟨_, h1, rfl⟩ e (fun z => nomatch z) h
  | @tup a xs ea =>
    cases (show u = Value.ref a from rx)
    obtain ⟨_, _, _, p⟩ := (show ObjOk X.prog X.w H s.heap a (.tup xs) from I.hok a _ ea)
    obtain ⟨o, h1, h2, _⟩ := p
    exact PySem.W.kia_one PySem.W.kitx_tuple I.kIn ⟨o, h1, h2⟩ e (fun z => nomatch z) h
  | @dK a kvs ea =>
    cases (show u = Value.ref a from rx)
    obtain ⟨_, _, vs, _, p⟩ := (show ObjOk X.prog X.w H s.heap a (.dK kvs) from I.hok a _ ea)
    obtain ⟨o, es, ep, h1, h2, _⟩ := p
    exact PySem.W.kia_one PySem.W.kitx_dict I.kIn ⟨o, h1, h2.1⟩ e (fun z => nomatch z) h
  | @dT a kvs ea =>
    cases (show u = Value.ref a from rx)
    obtain ⟨_, _, xs, _, o, es, ep, h1, h2, _⟩ := (show ObjOk X.prog X.w H s.heap a (.dT kvs) from I.hok a _ ea)
    exact PySem.W.kia_one PySem.W.kitx_dict I.kIn ⟨o, h1, h2.1⟩ e (fun z => nomatch z) h
  | @ins a C dx fs ea cl ha hn htk hm =>
    cases (show u = Value.ref a from rx)
    obtain ⟨mA, O, _⟩ := ins_get I.hok ea
    obtain ⟨od, J, _⟩ := O.look
    exact PySem.W.kia_one (PySem.W.kitx_own (cl.get _) cl.hd ha hn htk hm) I.kIn J e (fun z => nomatch z) h
end
end L2

namespace L2
open PySem PySem.Spec PyProof.Rows

structure Room (k : Nat) (A : Around) : Prop where
  hd : A.handled = none
  dp : A.depth + 3 * k + 5 < recursionLimit
  un : A.units + 16 * k + 200 < cLine
  gd : A.guards = some []
theorem Room.mono {j k : Nat} {A : Around} (r : Room k A) (h : j ≤ k) : Room j A := ⟨r.hd, by have := r.dp; omega, by have := r.un; omega, r.gd⟩
theorem Room.deeper {k : Nat} {A : Around} (r : Room (k + 1) A) (env : Env) : Room k (A.deeper env) :=
  ⟨r.hd, by have := r.dp; show A.depth + 1 + 3 * k + 5 < _; omega, by have := r.un; show A.units + 3 + 16 * k + 200 < _; omega, r.gd⟩
theorem Room.in1 {k : Nat} {A : Around} (r : Room (k + 1) A) : Room k A.in1 :=
  ⟨r.hd, by have := r.dp; show A.depth + 3 * k + 5 < _; omega, by have := r.un; show A.units + 1 + 16 * k + 200 < _; omega, r.gd⟩
theorem Room.depth {k : Nat} {A : Around} (r : Room k A) : A.depth < recursionLimit := by have := r.dp; omega
theorem Room.units {k : Nat} {A : Around} (r : Room k A) : A.units + 64 < cLine := by have := r.un; omega
def tNil : TA := fun _ H Q => Q [] H
def tCons (ta : TE) (tr : TA) : TA := fun σ H Q => ta σ H fun x H1 => tr σ H1 fun xs H2 => Q (x :: xs) H2
section
variable {X : Cx} {e : Expr} {es : List Expr} {te : TE} {t : TA} {pos : Pos}
theorem pa_nil : PA X [] tNil := fun _ _ _ _ H Q I h => Calls.spliced_nil ⟨[], H, I, .nil, h⟩
theorem pa_cons (ha : PE X e te) (hr : PA X es t) (hs : starEach (e :: es) X.env = (false, eval e X.env) :: starEach es X.env := by rfl) : PA X (e :: es) (tCons te t) := by
  intro pos pins s σ H Q I h
  rw [hs]
  show wpAny _ _ (spliced ((false, eval e X.env) :: backTo pos (starEach es X.env))) _ _ s
  refine Calls.spliced_cons (thn (ha pins s σ H _ I h) fun u s1 ⟨x, H1, I1, r1, q1⟩ => ?_)
  exact thn (hr pos pins s1 σ H1 _ I1 q1) fun us s2 ⟨xs, H2, I2, r2, q2⟩ => ⟨x :: xs, H2, I2, .cons r1 r2, q2⟩

/-- a tuple, a list of written items -/
def tTup (t : TA) : TE := fun σ H Q => t σ H fun xs H1 => xs.length ≤ sizeLine ∧ ∀ p, H1 p = none → Q (.ref p) (upd H1 p (.tup xs))
def tLst (t : TA) : TE := fun σ H Q => t σ H fun xs H1 => xs.length ≤ sizeLine ∧ ∀ p, H1 p = none → Q (.ref p) (upd H1 p (.lst xs))
theorem pe_tup {x1} (h : PA X es t) : PE X (.Tuple es x1 pos) (tTup t) := by
  intro pins s σ H Q I hq
  refine wpAny_Tuple_spliced (thn (h pos pins s σ H _ I hq) fun us s1 ⟨xs, H1, I1, r, z, q⟩ => ⟨by rw [← r.length]; exact z, ?_⟩)
  have hf : H1 s1.heap.objs.size = none := I1.hok.fresh (Nat.le_refl _)
  refine ⟨.ref s1.heap.objs.size, upd H1 s1.heap.objs.size (.tup xs), I1.laid (t' := s1.toks) (fun b u e => Heap.get?_push_of_some _ e) (Nat.le_refl _) ?_, rfl, q _ hf⟩
  exact ⟨z, us, r, ⟨_, Heap.get?_push_size _ rfl, rfl, _, rfl⟩⟩
theorem pe_lst (h : PA X es t) : PE X (.List es pos) (tLst t) := by
  intro pins s σ H Q I hq
  refine wpAny_List_spliced (thn (h pos pins s σ H _ I hq) fun us s1 ⟨xs, H1, I1, r, z, q⟩ => ⟨by rw [← r.length]; exact z, ?_⟩)
  have hf : H1 s1.heap.objs.size = none := I1.hok.fresh (Nat.le_refl _)
  refine ⟨.ref s1.heap.objs.size, upd H1 s1.heap.objs.size (.lst xs), I1.laid (t' := s1.toks) (fun b u e => Heap.get?_push_of_some _ e) (Nat.le_refl _) ?_, rfl, q _ hf⟩
  exact ⟨z, us, 0, r, Heap.get?_push_size _ rfl⟩
end

/-- a def's promise: the bound arguments in the parameters' order, the heap, the wanted end, the wanted exception -/
abbrev Sp := List V → Hp → VK → XK → Prop
/-- how an exception lies behind a call (file 08 gives it): the callers' frames, abstract heap and state ahead of the call, the wish, the exception, the state -/
abbrev CXT := List Env → Hp → Shared → XK → Value → Shared → Prop

/-- the state at a call -/
structure Env0 (P : Program) (w : World) (K : PySem.W.Frag) (mg : Str → Option Value) (base : Heap) (A : Around) (outer : List Env) (s : Shared) (H : Hp) : Prop where
  frames : A.frames = some outer
  mod : Mod K mg base
  bs : ∀ b o, base.get? b = some o → s.heap.get? b = some o ∧ H b = none
  bsz : base.objs.size ≤ s.heap.objs.size
  funs : s.heap.FunFrames base outer
  frf : ∀ b ∈ frs outer, H b = none
  hok : HOk P w H s.heap
  bare : AllBare s.gens
  tb : Tabs P K mg H
/-- a call's end -/
def CE (outer : List Env) (P : Program) (w : World) (H : Hp) (s : Shared) (Q : VK) (u : Value) (s' : Shared) : Prop :=
  ∃ v H', s'.os = s.os ∧ AllBare s'.gens ∧ Un (frs outer) [] H H' s.heap s'.heap ∧ HOk P w H' s'.heap ∧ RelV v u ∧ Q v H'
def CR (CX : CXT) (outer : List Env) (P : Program) (w : World) (H : Hp) (s : Shared) (Q : VK) (E : XK) (r : Result) (s' : Shared) : Prop :=
  match r with
  | .ok (.ret u) => CE outer P w H s Q u s'
  | .ok _ => False
  | .error e => CX outer H s E e s'
structure FnOk (P : Program) (w : World) (K : PySem.W.Frag) (mg : Str → Option Value) (base : Heap) (CX : CXT) (k : Nat) (f : Addr) (fd : FuncData) (ps : List Str) (sp : Sp) : Prop where
  len : ∀ vs H Q E, sp vs H Q E → vs.length = ps.length
  run : ∀ (A : Around) (outer : List Env) (s : Shared) (H : Hp) (args : Args) (us : List Value) (vs : List V) (Q : VK) (E : XK), Room k A → Env0 P w K mg base A outer s H → BindsTo s fd args (ps.zip us) → Vals vs us → sp vs H Q E →
    codeAny (model P w) A (.call (.ref f) args) (CR CX outer P w H s Q E) s
theorem FnOk.mono {P : Program} {w : World} {K : PySem.W.Frag} {mg : Str → Option Value} {base : Heap} {CX : CXT} {j k : Nat} {f : Addr} {fd : FuncData} {ps : List Str} {sp : Sp} (F : FnOk P w K mg base CX j f fd ps sp) (h : j ≤ k) :
    FnOk P w K mg base CX k f fd ps sp := ⟨F.len, fun A outer s H args us vs Q E hr => F.run A outer s H args us vs Q E (hr.mono h)⟩
/-- a weaker promise -/
theorem FnOk.imp {P : Program} {w : World} {K : PySem.W.Frag} {mg : Str → Option Value} {base : Heap} {CX : CXT} {k : Nat} {f : Addr} {fd : FuncData} {ps : List Str} {sp sp' : Sp} (F : FnOk P w K mg base CX k f fd ps sp)
    (h : ∀ vs H Q E, sp' vs H Q E → sp vs H Q E) : FnOk P w K mg base CX k f fd ps sp' :=
  ⟨fun vs H Q E q => F.len vs H Q E (h _ _ _ _ q), fun A outer s H args us vs Q E hr he hb hv hs => F.run A outer s H args us vs Q E hr he hb hv (h _ _ _ _ hs)⟩

theorem Env0.in1 {P : Program} {w : World} {K : PySem.W.Frag} {mg : Str → Option Value} {base : Heap} {A : Around} {outer : List Env} {s : Shared} {H : Hp} (e : Env0 P w K mg base A outer s H) :
    Env0 P w K mg base A.in1 outer s H := ⟨e.frames, e.mod, e.bs, e.bsz, e.funs, e.frf, e.hok, e.bare, e.tb⟩

section
variable {X : Cx} {pins : List (Addr × Obj)} {σ : St} {H : Hp} {s s' : Shared}
/-- from a body: what a callee wants -/
theorem Inv.env0 (I : Inv X pins σ H s) : Env0 X.prog X.w X.K X.mg X.base X.A X.stack s H :=
  ⟨I.ok.frames, I.ok.mod, I.bs, Nat.le_trans I.ok.bsz I.sz, I.stack, I.stkFree, I.hok, I.bare, I.ok.tb.un I.base⟩
/-- behind a call -/
theorem Inv.after {Q : VK} {u : Value} (I : Inv X pins σ H s) (h : CE X.stack X.prog X.w H s Q u s') : EP X pins σ Q u s' := by
  obtain ⟨v, H', os, bare, un, hok, r, q⟩ := h
  obtain ⟨hh, g, d, t, os'⟩ := s'
  obtain rfl : os' = s.os := os
  exact ⟨v, H', I.call (h' := hh) (g' := g) (d' := d) (t' := t) (ch := []) un hok bare (fun b z => absurd z (by simp)), r, q⟩
end

/-- f(..): the written arguments, then the defaults dvs; E: what is wanted of an exception -/
def tCall (sp : Sp) (dvs : List V) (E : XK) (t : TA) : TE := fun σ H Q => t σ H fun vs H1 => sp (vs ++ dvs) H1 Q E
/-- how the parameters are bound: us the positional arguments, kw the keywords' values by name, ds the defaults that fill up -/
def Binds (K : PySem.W.Frag) (fd : FuncData) (ps : List Str) (ds : List Value) : Prop :=
  ∀ (s : Shared) (us : List Value), K.In s.heap → (us ++ ds).length = ps.length → BindsTo s fd ⟨us, []⟩ (ps.zip (us ++ ds))
/-- every parameter is given -/
theorem Binds.all {K : PySem.W.Frag} {fd : FuncData} {ps : List Str} (h : ∀ us : List Value, us.length = ps.length → bindArgs fd ⟨us, []⟩ = pure (ps.zip us)) : Binds K fd ps [] := fun s us _ hl => by
  rw [List.append_nil] at hl ⊢
  exact .of_eq (h us hl)

/-- an exception of a callee reaches what this body wants of exceptions -/
def Passes (CX : CXT) (X : Cx) (E : XK) : Prop := ∀ (pins : List (Addr × Obj)) (σ : St) (H : Hp) (s : Shared) (e : Value) (s' : Shared), Inv X pins σ H s → CX X.stack H s E e s' → X.xe e s'

section
variable {X : Cx} {CX : CXT} {k : Nat} {f C : Addr} {fd : FuncData} {ps : List Str} {sp : Sp} {dvs : List V} {ds : List Value} {E : XK} {x m : Str} {p pos apos : Pos} {e o : Expr} {es : List Expr} {ta : TE} {t : TA}

/-- the callee runs -/
theorem run_fn {pins : List (Addr × Obj)} {σ : St} {H : Hp} {s : Shared} {Q : VK} {us : List Value} {vs : List V} (F : FnOk X.prog X.w X.K X.mg X.base CX k f fd ps sp) (hr : Room k X.A) (hb : Binds X.K fd ps ds) (hd : Vals dvs ds) (hx : Passes CX X E)
    (I : Inv X pins σ H s) (r : Vals vs us) (h : sp (vs ++ dvs) H Q E) : wpAny (model X.prog X.w) X.A (call (.ref f) us) (EP X pins σ Q) X.xe s := by
  have r2 : Vals (vs ++ dvs) (us ++ ds) := r.append hd
  have hl : (us ++ ds).length = ps.length := by rw [← r2.length]; exact F.len _ _ _ _ h
  refine wpAny_call (codeAny_mono (F.run X.A X.stack s H ⟨us, []⟩ (us ++ ds) (vs ++ dvs) Q E hr I.env0 (hb s us I.kIn hl) r2 h) fun r s' hq => ?_)
  cases r with
  | error e => exact hx pins σ H s e s' I hq
  | ok fl =>
    cases fl with
    | ret u => exact I.after hq
    | next => exact False.elim hq
    | brk => exact False.elim hq
    | cont => exact False.elim hq

theorem pe_call (F : FnOk X.prog X.w X.K X.mg X.base CX k f fd ps sp) (hr : Room k X.A) (hg : Gl X x) (hm : X.mg x = some (.ref f)) (hk : PySem.W.keepIn X.K (.ref f) = true) (hb : Binds X.K fd ps ds) (hd : Vals dvs ds) (hx : Passes CX X E)
    (ha : PA X (e :: es) t) (hdb : (x == ("__debug__" : Str)) = false := by decide) (he : starEach (e :: es) X.env = (false, eval e X.env) :: starEach es X.env := by rfl) (hpl : (backTo pos (starEach es X.env)).any (·.1) = false := by rfl) :
    PE X (.Call (.Name x p) (e :: es) [] pos) (tCall sp dvs E t) := by
  intro pins s σ H Q I h
  refine wpAny_Call_Name_kw (ld_glob I hg hm ?_ hdb)
  refine PySem.W.callWith_K (h₀ := X.base) I.ok.mod.kin hk (thn (ha pos pins s σ H _ I h) fun us s1 ⟨vs, H1, I1, r, q⟩ => ⟨I1.kIn, ?_⟩) he hpl
  exact run_fn F hr hb hd hx I1 r q
/-- what a class must have to be made -/
structure Mk (K : PySem.W.Frag) (C f : Addr) : Prop where
  makes : PySem.W.makesIn K C = true
  init : PySem.W.findIn K (.ref C) "__init__" = some (some (.ref f))
  fn : PySem.W.isFn K (.ref f) = true
  kp : PySem.W.keepIn K (.ref C) = true

end

section
variable {X : Cx} {CX : CXT} {k : Nat} {f C : Addr} {fd : FuncData} {ps ks : List Str} {sp : Sp} {E : XK} {x m : Str} {p pos apos kpos : Pos} {e o : Expr} {es : List Expr} {kws : List Keyword} {te ta : TE} {t tk : TA} {nm : Option Str}
/-- how a call with keywords binds: g puts the positional values us and the keywords' values ws (names ks) in the parameters' order, defaults among them -/
structure KBinds (K : PySem.W.Frag) (fd : FuncData) (ps ks : List Str) (g : List Value → List Value → List Value) (gV : List V → List V → List V) : Prop where
  to : ∀ (s : Shared) (us ws : List Value), K.In s.heap → (g us ws).length = ps.length → BindsTo s fd ⟨us, ks.zip ws⟩ (ps.zip (g us ws))
  rel : ∀ {vs : List V} {us : List Value} {zs : List V} {ws : List Value}, Vals vs us → Vals zs ws → Vals (gV vs zs) (g us ws)
variable {g : List Value → List Value → List Value} {gV : List V → List V → List V}
end

/-- names: the parameters first -/
structure FnScope (N P : List Str) (sc : Scope) : Prop where
  kind : sc.kind = .function
  co : sc.isCoroutine = false
  gen : sc.isGenerator = false
  nd : N.Nodup
  pre : N.take P.length = P
  par : ∀ x ∈ P, sc.names.lookup x = some .local ∨ sc.names.lookup x = some .cell
  nofree : ∀ y ∈ sc.names, y.2 ≠ .free

theorem bindL_out {kindOf : Str → Option NameKind} {x : Str} : ∀ {binds : List (Str × Value)} {m : Str → Option Value}, (∀ v, (x, v) ∉ binds) → bindL kindOf binds m x = m x
  | [], _, _ => rfl
  | (n, v) :: r, m, h => by
    unfold bindL
    rw [bindL_out fun w hw => h w (List.mem_cons_of_mem _ hw)]
    split
    · have : x ≠ n := by rintro rfl; exact h v List.mem_cons_self
      simp [this]
    · rfl
theorem bindC_out {kindOf : Str → Option NameKind} {x : Str} : ∀ {binds : List (Str × Value)} {m : Str → Option Value}, (∀ v, (x, v) ∉ binds) → bindC kindOf binds m x = m x
  | [], _, _ => rfl
  | (n, v) :: r, m, h => by
    unfold bindC
    rw [bindC_out fun w hw => h w (List.mem_cons_of_mem _ hw)]
    split
    · rfl
    · have : x ≠ n := by rintro rfl; exact h v List.mem_cons_self
      simp [this]
theorem bindL_get {kindOf : Str → Option NameKind} {x : Str} {v : Value} : ∀ {P : List Str} {vs : List Value} {i : Nat} {m : Str → Option Value}, P.Nodup → P[i]? = some x → vs[i]? = some v → kindOf x = some .local →
    bindL kindOf (P.zip vs) m x = some v
  | [], _, _, _, _, h, _, _ => by simp at h
  | _ :: _, [], _, _, _, _, h, _ => by simp at h
  | p :: P, w :: vs, 0, m, nd, h1, h2, hk => by
    simp at h1 h2; subst h1; subst h2
    show bindL kindOf ((p, w) :: P.zip vs) m p = _
    unfold bindL
    rw [bindL_out fun v hv => (List.nodup_cons.mp nd).1 (List.of_mem_zip hv).1, if_pos hk]
    simp
  | p :: P, w :: vs, i + 1, m, nd, h1, h2, hk => by
    show bindL kindOf ((p, w) :: P.zip vs) m x = _
    unfold bindL
    exact bindL_get (i := i) (List.nodup_cons.mp nd).2 (by simpa using h1) (by simpa using h2) hk
theorem bindC_get {kindOf : Str → Option NameKind} {x : Str} {v : Value} : ∀ {P : List Str} {vs : List Value} {i : Nat} {m : Str → Option Value}, P.Nodup → P[i]? = some x → vs[i]? = some v → kindOf x ≠ some .local →
    bindC kindOf (P.zip vs) m x = some v
  | [], _, _, _, _, h, _, _ => by simp at h
  | _ :: _, [], _, _, _, _, h, _ => by simp at h
  | p :: P, w :: vs, 0, m, nd, h1, h2, hk => by
    simp at h1 h2; subst h1; subst h2
    show bindC kindOf ((p, w) :: P.zip vs) m p = _
    unfold bindC
    rw [bindC_out fun v hv => (List.nodup_cons.mp nd).1 (List.of_mem_zip hv).1, if_neg hk]
    simp
  | p :: P, w :: vs, i + 1, m, nd, h1, h2, hk => by
    show bindC kindOf ((p, w) :: P.zip vs) m x = _
    unfold bindC
    exact bindC_get (i := i) (List.nodup_cons.mp nd).2 (by simpa using h1) (by simpa using h2) hk

/-- the names' values at the entry -/
def start (N : List Str) (vs : List V) : St := vs.map some ++ List.replicate (N.length - vs.length) none

/-- the context of a def's body, at its entry; an exception leaves the frame, then lies as CX says -/
def cxOf (CX : CXT) (P : Program) (w : World) (K : PySem.W.Frag) (mg : Str → Option Value) (base : Heap) (N : List Str) (qual : Str) (scope : Scope) (f : Addr) (cd : Value) (A : Around) (outer : List Env) (s : Shared) (H : Hp) (E : XK) : Cx where
  prog := P
  w := w
  K := K
  mg := mg
  base := base
  A := A.deeper (envOfC qual scope s.heap.objs.size f cd)
  N := N
  s_0 := s
  H_0 := H
  env := envOfC qual scope s.heap.objs.size f cd
  outer := outer
  stack := envOfC qual scope s.heap.objs.size f cd :: outer
  ex := []
  calm := true
  fn := fun _ => true
  pn := []
  xe := fun e s' => wpAny (model P w) (A.deeper (envOfC qual scope s.heap.objs.size f cd)) (leaving (envOfC qual scope s.heap.objs.size f cd) e) (fun _ s'' => CX outer H s E e s'') (fun e' s'' => CX outer H s E e' s'') s'

theorem cell_has {sc : Scope} {n : Nat} {x : Str} (h : sc.names.lookup x = some .cell) : ∃ c, (cellsFrom n sc.names []).lookup x = some c := by
  have q := PySem.W.cellsFrom_some sc.names n [] (.inl h)
  exact Option.isSome_iff_exists.mp q

theorem inv_start {CX : CXT} {P : Program} {w : World} {K : PySem.W.Frag} {mg : Str → Option Value} {base : Heap} {N ps : List Str} {qual : Str} {scope : Scope} {f : Addr} {cd : Value} {A : Around} {outer : List Env} {s s1 : Shared} {H : Hp} {E : XK} {us : List Value} {vs : List V}
    (S : FnScope N ps scope) (hd : A.handled = none) (e0 : Env0 P w K mg base A outer s H) (hl : vs.length = ps.length) (r : Vals vs us)
    (x : InCallC s s.heap.objs.size (bindL (envOfC qual scope s.heap.objs.size f cd).kindOf (ps.zip us) fun _ => none) (cellsFrom (s.heap.objs.size + 1) scope.names []) (bindC (envOfC qual scope s.heap.objs.size f cd).kindOf (ps.zip us) fun _ => none) s1) :
    Inv (cxOf CX P w K mg base N qual scope f cd A outer s H E) [] (start N vs) H s1 := by
  have hpl : ps.length ≤ N.length := by have := congrArg List.length S.pre; rw [List.length_take] at this; omega
  obtain ⟨h1, tk, rfl, hk⟩ := x.done
  have noA : ∀ b : Addr, b ∉ (cxOf CX P w K mg base N qual scope f cd A outer s H E).ex := fun b z => absurd (show b ∈ ([] : List Addr) from z) (by simp)
  refine ⟨⟨e0.mod, S.kind, rfl, rfl, Nat.le_refl _, fun y z c h1 h2 => ?_, fun y hy => ?_, fun y c _ h => ?_, fun _ => hd, Around.frames_deeper e0.frames, .inr ⟨rfl, rfl⟩, fun b z => absurd z (noA b), e0.bs, e0.bsz, fun b _ _ => noA b, fun b z => absurd z (noA b), e0.funs, e0.frf, e0.tb⟩,
    rfl, e0.bare, Un.kept hk, ⟨_, x.toInCall.ns, fun i y v h1 h2 h3 => ?_⟩, fun y c h => ⟨_, x.cell y c h⟩, e0.hok.fresh (Nat.le_refl _), fun y c h => ?_, fun p hp => absurd (show p ∈ ([] : List (Addr × Obj)) from hp) (by simp), e0.hok.kept hk, ?_⟩
  · exact name_of_addr x.apart (PySem.mem_of_lookup h1) (PySem.mem_of_lookup h2)
  · have hy : scope.names.lookup y = some .cell ∨ scope.names.lookup y = some .free := hy
    rcases hy with hy | hy
    · exact cell_has hy
    · exact absurd rfl (S.nofree _ (PySem.mem_of_lookup hy))
  · exact Nat.le_of_lt (x.above y c (PySem.mem_of_lookup h))
  · have hi : i < vs.length := by
      unfold start at h2
      by_cases hi : i < vs.length
      · exact hi
      · rw [List.getElem?_append_right (by simpa using hi)] at h2
        rw [List.getElem?_replicate] at h2
        split at h2 <;> cases h2
    have ha : vs[i]? = some v := by
      unfold start at h2
      rw [List.getElem?_append_left (by simpa using hi), List.getElem?_map] at h2
      cases e : vs[i]? with
      | none => rw [e] at h2; cases h2
      | some a => rw [e] at h2; cases h2; rfl
    obtain ⟨u, hu, rv⟩ := r.get ha
    have hp : ps[i]? = some y := by
      rw [← S.pre, List.getElem?_take_of_lt (by omega)]; exact h1
    have ndP : ps.Nodup := by rw [← S.pre]; exact S.nd.sublist (List.take_sublist _ _)
    refine ⟨u, rv, ?_⟩
    rcases S.par y (List.mem_of_getElem? hp) with k | k
    · exact .inl ⟨k, bindL_get ndP hp hu k⟩
    · obtain ⟨c, e⟩ := cell_has (n := s.heap.objs.size + 1) k
      refine .inr ⟨.inl k, c, e, ?_⟩
      have q := x.cell y c e
      rw [bindC_get ndP hp hu (by show scope.names.lookup y ≠ _; rw [k]; decide)] at q
      exact q
  · exact e0.hok.fresh (Nat.le_of_lt (x.above y c (PySem.mem_of_lookup h)))
  · unfold start
    show _ = N.length
    rw [List.length_append, List.length_map, List.length_replicate]
    omega

/-- THE RULE: a def (or a method) of the text, by its body. The body's reading t is chosen for each entry; it is run at the parameters' values -/
theorem fn_of {CX : CXT} {P : Program} {w : World} {K : PySem.W.Frag} {mg : Str → Option Value} {base : Heap} {k : Nat} {f : Addr} {name qual : Str} {params : Arguments} {body : List Stmt} {scope : Scope} {dV kV doc pm cdv ct oc : Value} {an od : Option Addr}
    {osl : Array (Option Value)} {N ps : List Str} {sp : Sp} (lk : K.lookup f = some ⟨oc, od, .func (PySem.W.fnOf name qual params body scope dV kV doc pm an cdv ct), osl⟩) (hcd : PySem.W.codeIn K cdv qual = true) (S : FnScope N ps scope)
    (len : ∀ vs H Q E, sp vs H Q E → vs.length = ps.length)
    (hbody : ∀ (A : Around) (outer : List Env) (s : Shared) (H : Hp) (vs : List V) (Q : VK) (E : XK), Room k (A.deeper (envOfC qual scope s.heap.objs.size f cdv)) → sp vs H Q E →
      ∃ t, PSs (cxOf CX P w K mg base N qual scope f cdv A outer s H E) body t ∧ t { nx := fun _ H' => Q .non H', rt := Q } (start N vs) H) :
    FnOk P w K mg base CX (k + 1) f (PySem.W.fnOf name qual params body scope dV kV doc pm an cdv ct) ps sp := by
  refine ⟨len, fun A outer s H args us vs Q E hr e0 hb r hsp => ?_⟩
  have hl := len _ _ _ _ hsp
  have KX : K.In s.heap := e0.mod.kin.keeps fun b o e => (e0.bs b o e).1
  have lim : s.heap.NoLimit := e0.mod.nolimit.keeps fun b o e => (e0.bs b o e).1
  have hkind : ∀ y ∈ ps.zip us, scope.names.lookup y.1 = some .local ∨ (scope.names.lookup y.1 = some .cell ∧ ((cellsFrom (s.heap.objs.size + 1) scope.names []).lookup y.1).isSome = true) := fun ⟨n, v⟩ hy => by
    rcases S.par n (List.of_mem_zip hy).1 with q | q
    · exact .inl q
    · exact .inr ⟨q, PySem.W.cellsFrom_some _ _ _ (.inl q)⟩
  refine codeAny_call_function hr.depth (KX _ _ lk) rfl S.co S.gen rfl (PySem.W.codeRec_of KX hcd) (hb _ _ _ _ ?_)
  refine wpAny_newFunctionEnv_cells S.kind hkind fun env he s1 x => ?_
  subst he
  refine ⟨lim.keeps x.toInCall.keep, codeAny_func ?_⟩
  obtain ⟨t, ht, hq⟩ := hbody A outer s H vs Q E (hr.deeper _) hsp
  have I : Inv (cxOf CX P w K mg base N qual scope f cdv A outer s H E) [] (start N vs) H s1 := inv_start S hr.hd e0 hl r x
  refine wpAny_mono (ht [] s1 (start N vs) H _ I hq) (fun fl s' hs => ?_) fun e s' hs => hs
  have fin : ∀ {σ' : St} {H' : Hp} {v : V} {u : Value}, Inv (cxOf CX P w K mg base N qual scope f cdv A outer s H E) [] σ' H' s' → RelV v u → Q v H' → CE outer P w H s Q u s' :=
    fun {σ' H' v u} J rv q => ⟨v, H', J.os, J.bare, J.base, J.hok, rv, q⟩
  cases fl with
  | ret u =>
    obtain ⟨v, σ', H', J, rv, q⟩ := hs
    exact fin J rv q
  | next =>
    obtain ⟨σ', H', J, q⟩ := hs
    exact fin (v := V.non) (u := Value.none) J rfl q
  | brk =>
    obtain ⟨_, _, _, q⟩ := hs
    exact False.elim q
  | cont =>
    obtain ⟨_, _, _, q⟩ := hs
    exact False.elim q
end L2

namespace L2
open PySem PySem.Spec PyProof.Rows
section
variable {X : Cx} {x : Str} {p pos : Pos} {e : Expr} {es : List Expr} {t : TA} {id T : String} {r : List V → Hp → VK → Prop}

def tCB (r : List V → Hp → VK → Prop) (t : TA) : TE := fun σ H Q => t σ H fun vs H1 => r vs H1 Q
/-- f(e, ..), f a built-in function -/
theorem pe_callB (hc : CallR X (.builtin id) r) (hg : Gl X x) (hm : X.mg x = none) (hv : bootBuiltins x = some (.builtin id)) (ha : PA X (e :: es) t) (hn : x ≠ "__name__" := by decide) (hdb : (x == ("__debug__" : Str)) = false := by decide)
    (he : starEach (e :: es) X.env = (false, eval e X.env) :: starEach es X.env := by rfl) (hpl : (backTo pos (starEach es X.env)).any (·.1) = false := by rfl) : PE X (.Call (.Name x p) (e :: es) [] pos) (tCB r t) := by
  intro pins s σ H Q I h
  refine wpAny_Call_Name_kw (ld_blt I hg hm hv ?_ hn hdb)
  exact PyProof.Rows.callWith_builtin1 (thn (ha pos pins s σ H _ I h) fun us s1 ⟨vs, H1, I1, r1, q1⟩ => hc pins s1 σ H1 vs us Q I1 r1 q1) he hpl
/-- T(e, ..), T a built-in type -/
theorem pe_callTy (hc : CallR X (.type T) r) (hg : Gl X x) (hm : X.mg x = none) (hv : bootBuiltins x = some (.type T)) (ha : PA X (e :: es) t) (hn : x ≠ "__name__" := by decide) (hdb : (x == ("__debug__" : Str)) = false := by decide)
    (he : starEach (e :: es) X.env = (false, eval e X.env) :: starEach es X.env := by rfl) (hpl : (backTo pos (starEach es X.env)).any (·.1) = false := by rfl) : PE X (.Call (.Name x p) (e :: es) [] pos) (tCB r t) := by
  intro pins s σ H Q I h
  refine wpAny_Call_Name_kw (ld_blt I hg hm hv ?_ hn hdb)
  exact PyProof.Rows.callWith_type1 (thn (ha pos pins s σ H _ I h) fun us s1 ⟨vs, H1, I1, r1, q1⟩ => hc pins s1 σ H1 vs us Q I1 r1 q1) he hpl
end
end L2

namespace HT
open PySem PyProof.Rows

/-- t < u of tuples of ints -/
def lexLt : List Int → List Int → Bool
  | [], [] => false
  | [], _ :: _ => true
  | _ :: _, [] => false
  | x :: xs, y :: ys => if x = y then lexLt xs ys else decide (x < y)
theorem lexLt_cons (x y : Int) (xs ys : List Int) : lexLt (x :: xs) (y :: ys) = if x = y then lexLt xs ys else decide (x < y) := rfl
theorem lexLt_nil_nil : lexLt [] [] = false := rfl
theorem lexLt_nil_cons (y : Int) (ys : List Int) : lexLt [] (y :: ys) = true := rfl
theorem lexLt_cons_nil (x : Int) (xs : List Int) : lexLt (x :: xs) [] = false := rfl

theorem eqAt_int (A : Around) (s : Shared) (a : Int) (t : Tok) (c : Int) (u : Tok) : ∃ e, SeqAt.EqAt A s (.int a t) (.int c u) e ∧ (e = true ↔ a = c) :=
  ⟨(a == c), SeqAt.EqAt.int_int a t c u, by simp⟩
theorem rcLt_int (A : Around) (s : Shared) (a : Int) (t : Tok) (c : Int) (u : Tok) (prog : Program) (w : World) (E : Value → Shared → Prop) (Q : Value → Shared → Prop) (h : Q (.bool (decide (a < c))) s) :
    wpAny (model prog w) A (richCompare .Lt (.int a t) (.int c u)) Q E s :=
  (PyProof.Rows.lt_int h : wpAny (model prog w) A (compareOp .Lt (.int a t) (.int c u)) Q E s)

section
open PySem.SeqAt
open PySem.AutoSeq1 (wpAny_loadPart')
open PySem.MeetsSeq PySem.MeetsSeq2 PySem.MeetsSeq3

theorem tuple_lt_ints (l b : Addr) (items items2 : Array Value) (n n2 : Nat) (dd dd2 : Option Addr) (sl sl2 : Array (Option Value)) (ns ms : List Int) (hi : IntsAre items.toList ns) (hj : IntsAre items2.toList ms) :
    Meets (Builtin.«tuple.__lt__» ⟨[.ref l, .ref b], []⟩)
      (fun _ R s => s.heap.get? l = some { cls := .type "tuple", dict := dd, data := .seq items n, slots := sl } ∧ s.heap.get? b = some { cls := .type "tuple", dict := dd2, data := .seq items2 n2, slots := sl2 } ∧
        R (.ok (.ret (.bool (lexLt ns ms)))) s) :=
  .of_wp fun prog w A R s h => by
    obtain ⟨hp, g, d, tk, os⟩ := s; obtain ⟨hl, hb, h⟩ := h
    have f2 := AutoSeq1.sub_tuple_tuple
    have z1 : items.size = ns.length := by rw [← hi.length]; simp
    have z2 : items2.size = ms.length := by rw [← hj.length]; simp
    wp_walk using wpAny_loadPart' hl, wpAny_loadPart' hb, wpAny_forIn_list _ (fun rest b s' => b.1 = none ∧ s' = ⟨hp, g, d, tk, os⟩ ∧ ∃ (vs ws : List Value) (ns' ms' : List Int), rest = vs.zip ws ∧
      IntsAre vs ns' ∧ IntsAre ws ms' ∧ ns'.length + items2.size = ms'.length + items.size ∧ R (.ok (.ret (.bool (lexLt ns' ms')))) ⟨hp, g, d, tk, os⟩) _
    case turn =>
      rintro ⟨y, x⟩ rest b s' ⟨hb', rfl, vs, ws, ns', ms', hz, hvi, hwi, hlen, hR⟩
      cases hvi with
      | nil => rw [List.zip_nil_left] at hz; cases hz
      | cons a t hvi' =>
        cases hwi with
        | nil => rw [List.zip_nil_right] at hz; cases hz
        | cons c u hwi' =>
          rw [List.zip_cons_cons] at hz
          injection hz with hyx hrest
          injection hyx with hy hx
          subst hy hx
          rw [lexLt_cons] at hR
          simp only [List.length_cons] at hlen
          obtain ⟨e, he, hiff⟩ := eqAt_int A.in1 ⟨hp, g, d, tk, os⟩ a t c u
          refine wpAny_bind (he prog w _ _ ?_)
          cases e with
          | true =>
            rw [if_pos (hiff.mp rfl)] at hR
            wp_walk
            exact ⟨rfl, rfl, _, _, _, _, hrest, hvi', hwi', by omega, hR⟩
          | false =>
            rw [if_neg (fun q => absurd (hiff.mpr q) Bool.false_ne_true)] at hR
            have hri := rcLt_int A.in1 ⟨hp, g, d, tk, os⟩ a t c u prog w
            wp_walk using hri
            exact ⟨_, rfl, by simpa using hR⟩
    case fin =>
      rintro ⟨b1, b2⟩ s' ⟨hb', rfl, vs, ws, ns', ms', hz, hvi, hwi, hlen, hR⟩
      simp only at hb'
      subst hb'
      have hv : lexLt ns' ms' = decide (items.size < items2.size) := by
        cases hvi with
        | nil =>
          cases hwi with
          | nil =>
            simp only [List.length_nil] at hlen
            rw [lexLt_nil_nil]
            exact (decide_eq_false (by omega)).symm
          | cons c u hw =>
            simp only [List.length_nil, List.length_cons] at hlen
            rw [lexLt_nil_cons]
            exact (decide_eq_true (by omega)).symm
        | cons a t hv =>
          cases hwi with
          | nil =>
            simp only [List.length_nil, List.length_cons] at hlen
            rw [lexLt_cons_nil]
            exact (decide_eq_false (by omega)).symm
          | cons c u hw =>
            rw [List.zip_cons_cons] at hz
            cases hz
      rw [hv] at hR
      wp_walk
      exact ⟨_, rfl, by simpa [Builtin.Tuple.tupleCompareSizes] using hR⟩
    case h =>
      exact ⟨rfl, rfl, items.toList, items2.toList, ns, ms, rfl, hi, hj, by omega, h⟩
end

section
variable {prog : Program} {w : World} {A : Around} {E : Value → Shared → Prop} {s : Shared}

theorem lt_tupInts {l b : Addr} {items items2 : Array Value} {ns ms : List Int} {Q : Value → Shared → Prop} (hl : IsTup s.heap l items) (hb : IsTup s.heap b items2) (hi : IntsAre items.toList ns) (hj : IntsAre items2.toList ms)
    (hu : A.units < cLine) (h : Q (.bool (lexLt ns ms)) s) : wpAny (model prog w) A (compareOp .Lt (.ref l) (.ref b)) Q E s := by
  obtain ⟨⟨cls, dd, data, sl⟩, ho, hc, n, hd⟩ := id hl
  obtain ⟨⟨cls2, dd2, data2, sl2⟩, ho2, hc2, n2, hd2⟩ := id hb
  simp only at hc hd hc2 hd2
  subst hc hd hc2 hd2
  exact richCompare_meets_room (op := .Lt) ⟨_, ho, rfl⟩ ⟨_, ho2, rfl⟩ PySem.F.slot_tuple_lt PySem.F.entry_tuple_lt (PySem.F.args_tuple_lt_2 _ _) (tuple_lt_ints l b items items2 n n2 dd dd2 sl sl2 ns ms hi hj)
    ⟨ho, ho2, show Value.bool (lexLt ns ms) ≠ Value.notImplemented ∧ Q (.bool (lexLt ns ms)) s from ⟨(fun x => nomatch x), h⟩⟩ hu

/-- a slice's bound as a place among n (d where it is left out) -/
def sIx (n d : Nat) : Option Int → Nat
  | none => d
  | some v => if v < 0 then (v + (n : Int)).toNat else min v.toNat n
end
end HT

namespace L2
open PySem PySem.Spec PyProof.Rows

abbrev TO := St → Hp → (Option Int → Hp → Prop) → Prop
/-- a slice's part (left out, or an int) -/
def PO (X : Cx) (e : Option Expr) (t : TO) : Prop :=
  ∀ (pins : List (Addr × Obj)) (s : Shared) (σ : St) (H : Hp) (Q : Option Int → Hp → Prop), Inv X pins σ H s → t σ H Q →
    wpAny (model X.prog X.w) X.A (evalPart e X.env) (fun u s' => ∃ o H', Inv X pins σ H' s' ∧ IsPart u o ∧ Q o H') X.xe s
def tNoPart : TO := fun _ H Q => Q none H
def tPart (t : TE) : TO := fun σ H Q => t σ H fun x H1 => ∃ i, x = .int i ∧ Q (some i) H1

theorem intsAre_of {ns : List Int} : ∀ {us : List Value}, Vals (ns.map V.int) us → IntsAre us ns := by
  induction ns with
  | nil => intro us r; rw [List.map_nil] at r; cases r; exact .nil
  | cons n ns ih =>
    intro us r
    rw [List.map_cons] at r
    cases r with
    | cons r1 r2 =>
      obtain ⟨t, e⟩ := r1
      subst e
      exact .cons n t (ih r2)

section
variable {X : Cx} {e : Expr} {te : TE} {lo hi : Option Expr} {tl th : TO} {pos p2 : Pos}

theorem po_none : PO X none tNoPart := by
  intro pins s σ H Q I h
  rw [evalPart_none]
  exact wpAny_pure ⟨none, H, I, .none, h⟩
theorem po_some (h : PE X e te) : PO X (some e) (tPart te) := by
  intro pins s σ H Q I hw
  rw [evalPart_some]
  refine thn (h pins s σ H _ I hw) fun u s1 ⟨x, H1, I1, r1, q1⟩ => ?_
  obtain ⟨i, rfl, q⟩ := q1
  obtain ⟨t, rfl⟩ := r1
  exact ⟨some i, H1, I1, .int i t, q⟩

/-- what a slice of a value is, by values: the slice object stands at sl -/
def SlR (X : Cx) (r : V → Option Int → Option Int → Hp → VK → Prop) : Prop :=
  ∀ (pins : List (Addr × Obj)) (s : Shared) (σ : St) (H : Hp) (x : V) (v vl vu : Value) (lo hi : Option Int) (sl : Addr) (Q : VK), Inv X pins σ H s → RelV x v → s.heap.IsSliceOf sl vl vu .none → IsPart vl lo → IsPart vu hi → r x lo hi H Q →
    ∃ T id, typeLookup (.type T) "__getitem__" = pure (some (.builtin id)) ∧ s.TypeIs v T ∧ wpAny (model X.prog X.w) X.A (getItem v (.ref sl)) (EP X pins σ Q) X.xe s
theorem SlR.or {r r' : V → Option Int → Option Int → Hp → VK → Prop} (h : SlR X r) (h' : SlR X r') : SlR X (fun x lo hi H Q => r x lo hi H Q ∨ r' x lo hi H Q) := by
  intro pins s σ H x v vl vu lo hi sl Q I rx hs pl pu q
  rcases q with q | q
  · exact h pins s σ H x v vl vu lo hi sl Q I rx hs pl pu q
  · exact h' pins s σ H x v vl vu lo hi sl Q I rx hs pl pu q
def tSl (r : V → Option Int → Option Int → Hp → VK → Prop) (te : TE) (tl th : TO) : TE := fun σ H Q => te σ H fun x H1 => tl σ H1 fun l H2 => th σ H2 fun u H3 => r x l u H3 Q
/-- a[lo:hi], any a -/
theorem pe_slice {r : V → Option Int → Option Int → Hp → VK → Prop} (hr : SlR X r) (he : PE X e te) (hl : PO X lo tl) (hu : PO X hi th) : PE X (.Subscript e (.Slice lo hi none p2) pos) (tSl r te tl th) := by
  intro pins s σ H Q I h
  refine Subscript_ (thn (he pins s σ H _ I h) fun v s1 ⟨x, H1, I1, r1, q1⟩ => ?_)
  refine wpAny_Slice (thn (hl pins s1 σ H1 _ I1 q1) fun vl s2 ⟨l, H2, I2, pl, q2⟩ => thn (hu pins s2 σ H2 _ I2 q2) fun vu s3 ⟨u, H3, I3, pu, q3⟩ => ?_)
  rw [evalPart_none]
  refine wpAny_pure ?_
  have I4 : Inv X pins σ H3 { s3 with heap := s3.heap.push { cls := .type "slice", data := .fields #[vl, vu, .none] } } := I3.kept (t' := s3.toks) fun b ob q => Heap.get?_push_of_some _ q
  obtain ⟨T, id, hT, ht, hg⟩ := hr pins { s3 with heap := s3.heap.push { cls := .type "slice", data := .fields #[vl, vu, .none] } } σ H3 x v vl vu l u s3.heap.objs.size Q I4 r1 (Heap.IsSliceOf.new ..) pl pu q3
  show wpAny (model X.prog X.w) X.A (subscriptTail e (.Slice lo hi none p2) v (.ref s3.heap.objs.size)) (EP X pins σ Q) X.xe { s3 with heap := s3.heap.push { cls := .type "slice", data := .fields #[vl, vu, .none] } }
  exact tail_any (ops := [.ref s3.heap.objs.size, v]) ht hT hg (by with_unfolding_all rfl)

/-- the items of xs[lo:hi] -/
def cutV (xs : List V) (lo hi : Option Int) : List V := (xs.drop (HT.sIx xs.length 0 lo)).take (HT.sIx xs.length xs.length hi - HT.sIx xs.length 0 lo)
theorem cutV_length (xs : List V) (lo hi : Option Int) : (cutV xs lo hi).length ≤ xs.length := by
  unfold cutV
  rw [List.length_take, List.length_drop]
  omega
end
end L2

namespace L2
open PySem PySem.Spec PyProof.Rows

/-- the place that an index of any sign means -/
def ixN (n : Nat) (i : Int) : Option Nat := if 0 ≤ i then (if i < n then some i.toNat else none) else if -(n : Int) ≤ i then some (i + n).toNat else none
def atI {α : Type} (xs : List α) (i : Int) : Option α := (ixN xs.length i).bind fun j => xs[j]?
theorem ixN_seq {n : Nat} {i : Int} {j : Nat} (h : ixN n i = some j) : seqIndex? i n = some j ∧ j < n ∧ -(n : Int) ≤ i ∧ i < n := by
  unfold ixN at h
  by_cases h0 : 0 ≤ i
  · rw [if_pos h0] at h
    by_cases h1 : i < n
    · rw [if_pos h1] at h
      have e : i.toNat = j := Option.some.inj h
      exact ⟨by rw [seqIndex_of h0 h1, e], by omega, by omega, h1⟩
    · rw [if_neg h1] at h; cases h
  · rw [if_neg h0] at h
    by_cases h1 : -(n : Int) ≤ i
    · rw [if_pos h1] at h
      have e : (i + n).toNat = j := Option.some.inj h
      exact ⟨by rw [seqIndex_neg (by omega) h1, e], by omega, h1, by omega⟩
    · rw [if_neg h1] at h; cases h
theorem atI_get {α : Type} {xs : List α} {i : Int} {v : α} (h : atI xs i = some v) : ∃ j, seqIndex? i xs.length = some j ∧ xs[j]? = some v ∧ j < xs.length ∧ -(xs.length : Int) ≤ i ∧ i < xs.length := by
  unfold atI at h
  cases e : ixN xs.length i with
  | none => rw [e] at h; cases h
  | some j =>
    rw [e] at h
    obtain ⟨h1, h2, h3, h4⟩ := ixN_seq e
    exact ⟨j, h1, h, h2, h3, h4⟩
theorem atI_nat {α : Type} {xs : List α} {j : Nat} {v : α} (h : xs[j]? = some v) : atI xs (j : Int) = some v := by
  have hj : j < xs.length := (List.getElem?_eq_some_iff.mp h).1
  have e : ixN xs.length (j : Int) = some j := by
    unfold ixN
    rw [if_pos (by omega), if_pos (by omega)]; simp
  unfold atI; rw [e]; exact h
theorem atI_last {α : Type} (xs : List α) (v : α) : atI (xs ++ [v]) (-1) = some v := by
  have hl : (xs ++ [v]).length = xs.length + 1 := by simp
  have e : ixN (xs ++ [v]).length (-1) = some xs.length := by
    unfold ixN
    rw [hl, if_neg (by decide), if_pos (by omega)]
    congr 1
    omega
  unfold atI
  rw [e]
  show (xs ++ [v])[xs.length]? = some v
  simp

/-- what stands as an index of a plain subscript -/
def PlainIx (b : Expr) : Prop := ∀ o i, subscripted b false o i = operate [o, i] (getItem o i)
/-- a subscript by values -/
def IxR (X : Cx) (r : R2) : Prop :=
  ∀ (value slice : Expr) (pins : List (Addr × Obj)) (s : Shared) (σ : St) (H : Hp) (x y : V) (v u : Value) (Q : VK), Inv X pins σ H s → RelV x v → RelV y u → r x y H Q →
    subscripted slice false v u = operate [v, u] (getItem v u) → wpAny (model X.prog X.w) X.A (subscriptTail value slice v u) (EP X pins σ Q) X.xe s
/-- a call of a builtin's method by values: the receiver, the arguments -/
def MtR (X : Cx) (id : String) (r : V → List V → Hp → VK → Prop) : Prop :=
  ∀ (pins : List (Addr × Obj)) (s : Shared) (σ : St) (H : Hp) (x : V) (xs : List V) (v : Value) (us : List Value) (Q : VK), Inv X pins σ H s → RelV x v → Vals xs us → r x xs H Q →
    wpAny (model X.prog X.w) X.A (call (.builtin id) (v :: us)) (EP X pins σ Q) X.xe s
section
variable {X : Cx} {a b : Expr} {ta tb : TE} {pos : Pos}
theorem IxR.or {r r' : R2} (h : IxR X r) (h' : IxR X r') : IxR X (fun x y H Q => r x y H Q ∨ r' x y H Q) := by
  intro value slice pins s σ H x y v u Q I rx ry q hs
  rcases q with q | q
  · exact h value slice pins s σ H x y v u Q I rx ry q hs
  · exact h' value slice pins s σ H x y v u Q I rx ry q hs
theorem MtR.or {id : String} {r r' : V → List V → Hp → VK → Prop} (h : MtR X id r) (h' : MtR X id r') : MtR X id (fun x xs H Q => r x xs H Q ∨ r' x xs H Q) := by
  intro pins s σ H x xs v us Q I rx rs q
  rcases q with q | q
  · exact h pins s σ H x xs v us Q I rx rs q
  · exact h' pins s σ H x xs v us Q I rx rs q
/-- a[b] -/
theorem pe_ix {r : R2} (hr : IxR X r) (ha : PE X a ta) (hb : PE X b tb) (hs : PlainIx b) : PE X (.Subscript a b pos) (tOp r ta tb) := by
  intro pins s σ H Q I h
  exact Subscript_ (binT ha hb I h fun v u s2 x y H2 I2 rx ry q => hr a b pins s2 σ H2 x y v u Q I2 rx ry q (hs _ _))

def rIxL (K : PySem.W.Frag) : R2 := fun x y H Q => ∃ p xs i v, x = .ref p ∧ y = .int i ∧ SqL K H p xs ∧ atI xs i = some v ∧ Q v H
def rIxT (K : PySem.W.Frag) : R2 := fun x y H Q => ∃ p xs i v, x = .ref p ∧ y = .int i ∧ SqT K H p xs ∧ atI xs i = some v ∧ Q v H
theorem ix_list : IxR X (rIxL X.K) := by
  intro value slice pins s σ H x y v u Q I rx ry h hs
  obtain ⟨p, xs, i, z, rfl, rfl, hq, he, q⟩ := h
  cases rx
  obtain ⟨t, rfl⟩ := ry
  obtain ⟨its, r, pl, hz⟩ := I.list hq
  obtain ⟨j, h1, h2, h3, h4, h5⟩ := atI_get he
  obtain ⟨w, ew, rw'⟩ := r.get h2
  have hl := r.length
  have hn := line63
  have fin : EP X pins σ Q w s := ⟨z, H, I, rw', q⟩
  by_cases h0 : 0 ≤ i
  · have hj : i.toNat = j := by
      rw [seqIndex_of h0 h5] at h1
      exact Option.some.inj h1
    exact item_listR pl.isList h0 (by omega) (by rw [hj]; simpa using ew) fin hs
  · have hj : (i + (its.toArray.size : Int)).toNat = j := by
      rw [seqIndex_neg (by omega) h4] at h1
      rw [List.size_toArray, ← hl]
      exact Option.some.inj h1
    exact subscriptTail_builtinR (x := w) pl.isList.typeIs slot_list_getitem.lookup
      (wpAny_getItem_list_neg (Q := fun r s' => r = w ∧ EP X pins σ Q r s') pl.isList (by omega) (by rw [List.size_toArray] <;> omega) (by omega) (by rw [hj]; simpa using ew) ⟨rfl, fin⟩) hs
theorem ix_tup : IxR X (rIxT X.K) := by
  intro value slice pins s σ H x y v u Q I rx ry h hs
  obtain ⟨p, xs, i, z, rfl, rfl, hq, he, q⟩ := h
  cases rx
  obtain ⟨t, rfl⟩ := ry
  obtain ⟨its, r, pl, hz⟩ := I.tuple hq
  obtain ⟨j, h1, h2, h3, h4, h5⟩ := atI_get he
  obtain ⟨w, ew, rw'⟩ := r.get h2
  have hl := r.length
  have hn := line63
  have fin : EP X pins σ Q w s := ⟨z, H, I, rw', q⟩
  exact subscriptTail_builtinR (x := w) pl.typeIs slot_tuple_getitem.lookup
    (getItem_tuple (j := j) (Q := fun r s' => r = w ∧ EP X pins σ Q r s') pl (by omega) (by omega) (by rw [List.size_toArray, ← hl]; exact h1) (by simpa using ew) ⟨rfl, fin⟩) hs
/-- the list's object behind a store -/
theorem mapSeq_set (its : List Value) (n j : Nat) (u : Value) : Obj.mapSeq (·.setIfInBounds j u) { cls := .type "list", data := .seq its.toArray n } = { cls := .type "list", data := .seq (its.set j u).toArray n } := by
  simp [Obj.mapSeq]
theorem Inv.lst {pins : List (Addr × Obj)} {σ : St} {H : Hp} {s : Shared} {p : Addr} {xs : List V} (I : Inv X pins σ H s) (h : H p = some (.lst xs)) :
    ∃ (its : List Value) (n : Nat), Vals xs its ∧ s.heap.get? p = some { cls := .type "list", data := .seq its.toArray n } ∧ xs.length ≤ sizeLine := by
  obtain ⟨z, its, n, r, e⟩ := I.hok p _ h
  exact ⟨its, n, r, e, z⟩
/-- the list at p is written by an update of its object -/
theorem Inv.lstUpd {pins : List (Addr × Obj)} {σ : St} {H : Hp} {s : Shared} {p : Addr} {xs ys : List V} {its its' : List Value} {n n' : Nat} {f : Obj → Obj} (I : Inv X pins σ H s) (h : H p = some (.lst xs))
    (ho : s.heap.get? p = some { cls := .type "list", data := .seq its.toArray n }) (hf : f { cls := .type "list", data := .seq its.toArray n } = { cls := .type "list", data := .seq its'.toArray n' }) (r : Vals ys its') (hz : ys.length ≤ sizeLine) (t : Nat) :
    Inv X pins σ (upd H p (.lst ys)) { s with heap := s.heap.update p f, toks := t } := by
  have e : (s.heap.update p f).get? p = some { cls := .type "list", data := .seq its'.toArray n' } := by
    rw [Heap.get?_update_self f ho (by rw [hf] <;> rfl), hf]
  refine I.write (x := p) (e := p) (by rw [h]; trivial) (.inl rfl) (fun b u hb q => (Heap.get?_update_other _ _ (Ne.symm hb)).trans q) ⟨_, e⟩ ?_
  exact ⟨hz, its', n', r, e⟩
def rSetL : V → V → V → Hp → (Hp → Prop) → Prop := fun o i v H Q => ∃ p xs k j, o = .ref p ∧ i = .int k ∧ H p = some (.lst xs) ∧ ixN xs.length k = some j ∧ Q (upd H p (.lst (xs.set j v)))
theorem set_list : PSet X rSetL := by
  intro pins s σ H o i v ov iv u Q I ro ri rv h
  obtain ⟨p, xs, k, j, rfl, rfl, hp, hj, q⟩ := h
  cases ro
  obtain ⟨t, rfl⟩ := ri
  obtain ⟨its, n, r, ho, hz⟩ := I.lst hp
  obtain ⟨h1, h2, h3, h4⟩ := ixN_seq hj
  have hl := r.length
  have hn := line63
  have I' : Inv X pins σ (upd H p (.lst (xs.set j v))) { s with heap := s.heap.update p (Obj.mapSeq (·.setIfInBounds j u)) } :=
    I.lstUpd hp ho (mapSeq_set its n j u) (r.set rv j) (by rw [List.length_set]; exact hz) s.toks
  by_cases h0 : 0 ≤ k
  · have hk : k.toNat = j := by
      rw [seqIndex_of h0 h4] at h1
      exact Option.some.inj h1
    exact PySem.W.ki_setAt ho h0 (by omega) (by rw [List.size_toArray, ← hl]; exact h4) (by rw [hk]; exact ⟨_, I', q⟩)
  · have hk : (k + (its.toArray.size : Int)).toNat = j := by
      rw [seqIndex_neg (by omega) h3] at h1
      rw [List.size_toArray, ← hl]
      exact Option.some.inj h1
    exact PySem.W.ki_setBack ho (by omega) (by rw [List.size_toArray, ← hl]; exact h3) (by omega) (by rw [hk]; exact ⟨_, I', q⟩)

theorem slice_bounds (lo hi : Option Int) (n : Nat) : (sliceBounds lo hi none n).1 = ((HT.sIx n 0 lo : Nat) : Int) ∧ (sliceBounds lo hi none n).2.1 = ((HT.sIx n n hi : Nat) : Int) ∧ (sliceBounds lo hi none n).2.2 = 1 := by
  refine ⟨?_, ?_, rfl⟩
  · cases lo with
    | none => simp [sliceBounds, HT.sIx]
    | some i =>
      simp only [sliceBounds, HT.sIx, Option.getD_none, show (1 : Int) > 0 by decide, if_true]
      by_cases h : i < 0
      · simp only [h, if_true] <;> omega
      · simp only [h, if_false] <;> omega
  · cases hi with
    | none => simp [sliceBounds, HT.sIx]
    | some i =>
      simp only [sliceBounds, HT.sIx, Option.getD_none, show (1 : Int) > 0 by decide, if_true]
      by_cases h : i < 0
      · simp only [h, if_true] <;> omega
      · simp only [h, if_false] <;> omega
theorem slicePick_cut (its : List Value) (lo hi : Option Int) : slicePick its.toArray lo hi none = ((its.drop (HT.sIx its.length 0 lo)).take (HT.sIx its.length its.length hi - HT.sIx its.length 0 lo)).toArray := by
  obtain ⟨h1, h2, h3⟩ := slice_bounds lo hi its.toArray.size
  unfold slicePick
  rw [h1, h2, h3]
  simp only [sliceRange_one, pick_run, List.size_toArray] <;> rfl
/-- xs[lo:hi] of a list: a new list -/
def rSlL (K : PySem.W.Frag) : V → Option Int → Option Int → Hp → VK → Prop := fun x lo hi H Q => ∃ a xs, x = .ref a ∧ SqL K H a xs ∧ ∀ p, H p = none → Q (.ref p) (upd H p (.lst (cutV xs lo hi)))
theorem sl_list : SlR X (rSlL X.K) := by
  intro pins s σ H x v vl vu lo hi sl Q I rx hs pl pu h
  obtain ⟨a, xs, rfl, hx, q⟩ := h
  cases rx
  obtain ⟨its, r, ht, hz⟩ := I.list hx
  have hlen := r.length
  refine ⟨"list", _, slot_list_getitem.lookup, ht.isList.typeIs, ?_⟩
  refine wpAny_getItem_list_slice ht.isList hs pl pu .none (by simp) ?_ (by rw [List.size_toArray] <;> omega)
  rw [slicePick_cut, ← hlen]
  refine ⟨.ref s.heap.objs.size, _, I.laid (t' := s.toks) (o := .lst (cutV xs lo hi)) (fun b ob q => Heap.get?_push_of_some _ q) (Nat.le_refl _) ?_, rfl, q _ (I.hok.fresh (Nat.le_refl _))⟩
  exact ⟨Nat.le_trans (cutV_length xs lo hi) hz, _, 0, (r.drop (HT.sIx xs.length 0 lo)).take (HT.sIx xs.length xs.length hi - HT.sIx xs.length 0 lo), Heap.get?_push_size _ rfl⟩

theorem call_len_seq : CallR X (.builtin "len") (fun xs H Q => ∃ p ys, xs = [.ref p] ∧ (SqL X.K H p ys ∨ SqT X.K H p ys) ∧ Q (.int ys.length) H) := by
  intro pins s σ H xs us Q I r h
  obtain ⟨p, ys, rfl, hq, q⟩ := h
  obtain ⟨u, rfl, rx⟩ := vals1 r
  cases rx
  have hn := line63
  rcases hq with hq | hq
  · obtain ⟨its, r', pl, hz⟩ := I.list hq
    have hlen := r'.length
    exact Calls.call_len_list pl.isList (by simp only [List.size_toArray] <;> omega) ⟨.int ys.length, H, I.tok _, ⟨s.toks + 1, by rw [List.size_toArray, hlen]⟩, q⟩
  · obtain ⟨its, r', pl, hz⟩ := I.tuple hq
    have hlen := r'.length
    exact len_tuple pl (by simp only [List.size_toArray] <;> omega) ⟨.int ys.length, H, I.tok _, ⟨s.toks + 1, by rw [List.size_toArray, hlen]⟩, q⟩
theorem CallR.or {f : Value} {r r' : List V → Hp → VK → Prop} (h : CallR X f r) (h' : CallR X f r') : CallR X f (fun xs H Q => r xs H Q ∨ r' xs H Q) := by
  intro pins s σ H xs us Q I rs q
  rcases q with q | q
  · exact h pins s σ H xs us Q I rs q
  · exact h' pins s σ H xs us Q I rs q
/-- the value is of that builtin type -/
def tyV (K : PySem.W.Frag) (T : String) (x : V) (H : Hp) : Prop := match x with
  | .str _ => T = "str"
  | .int _ => T = "int"
  | .ref p => (T = "list" ∧ ∃ xs, SqL K H p xs) ∨ (T = "tuple" ∧ ∃ o, K.lookup p = some o ∧ o.cls = .type "tuple" ∧ o.dict = none) ∨
      (T = "dict" ∧ ((∃ kvs, H p = some (.dK kvs)) ∨ ∃ kvs, H p = some (.dT kvs))) ∨ (T = "set" ∧ ∃ S n, H p = some (.set S n))
  | _ => False
theorem tyV_is {pins : List (Addr × Obj)} {σ : St} {H : Hp} {s : Shared} {T : String} {x : V} {v : Value} (I : Inv X pins σ H s) (r : RelV x v) (ty : tyV X.K T x H) :
    s.TypeIs v T ∧ ∀ a, v = .ref a → ∃ ob, s.heap.get? a = some ob ∧ ob.dict = none := by
  cases x with
  | str z =>
    obtain ⟨t, rfl⟩ := r
    cases (show T = "str" from ty)
    exact ⟨typeIs_str s z t, fun _ e => nomatch e⟩
  | int i =>
    obtain ⟨t, rfl⟩ := r
    cases (show T = "int" from ty)
    exact ⟨typeIs_int s i t, fun _ e => nomatch e⟩
  | ref p =>
    cases r
    rcases ty with ⟨rfl, xs, hq⟩ | ⟨rfl, o, hk, hc, hd⟩ | ⟨rfl, hk⟩ | ⟨rfl, S, n, hk⟩
    · obtain ⟨its, _, pl, _⟩ := I.list hq
      refine ⟨pl.isList.typeIs, fun a e => ?_⟩
      cases e
      obtain ⟨o, n, e, c, hd, _⟩ := pl
      exact ⟨o, e, hd⟩
    · refine ⟨⟨o, I.kIn p o hk, hc⟩, fun a e => ?_⟩
      cases e
      exact ⟨o, I.kIn _ o hk, hd⟩
    · have z : ∃ o, s.heap.get? p = some o ∧ o.ExactDict := by
        rcases hk with ⟨kvs, hk⟩ | ⟨kvs, hk⟩
        · obtain ⟨_, _, _, _, o, _, _, e, ex, _⟩ := I.hok p _ hk
          exact ⟨o, e, ex⟩
        · obtain ⟨_, _, _, _, o, _, _, e, ex, _⟩ := I.hok p _ hk
          exact ⟨o, e, ex⟩
      obtain ⟨o, e, ex⟩ := z
      refine ⟨⟨o, e, ex.1⟩, fun a e2 => ?_⟩
      cases e2
      exact ⟨o, e, ex.2.1⟩
    · obtain ⟨o, _, _, _, e, ex, _⟩ := I.hok p _ hk
      refine ⟨⟨o, e, ex.1⟩, fun a e2 => ?_⟩
      cases e2
      exact ⟨o, e, ex.2.1⟩
  | _ => exact False.elim ty
def tBM0 (K : PySem.W.Frag) (T : String) (r : V → List V → Hp → VK → Prop) (to : TE) : TE := fun σ H Q => to σ H fun x H1 => tyV K T x H1 ∧ r x [] H1 Q
def tBM (K : PySem.W.Frag) (T : String) (r : V → List V → Hp → VK → Prop) (to : TE) (t : TA) : TE := fun σ H Q => to σ H fun x H1 => tyV K T x H1 ∧ t σ H1 fun xs H2 => r x xs H2 Q
variable {o e : Expr} {es : List Expr} {to : TE} {t : TA} {name : Str} {apos cpos : Pos} {T id : String} {r : V → List V → Hp → VK → Prop}
theorem pe_bm0 (pa : PlainAttrs T) (slot : Slot T name id) (hty : typeOf (.builtin id) = pure (.type "method_descriptor")) (hm : MtR X id r) (ho : PE X o to)
    (hbase : attributeBase o name X.env (eval o X.env) = eval o X.env := by rfl) (hline : (apos.endLine == cpos.line) = true := by rfl) : PE X (.Call (.Attribute o name apos) [] [] cpos) (tBM0 X.K T r to) := by
  intro pins s σ H Q I h
  refine wpAny_Call_method0_late hbase hline (thn (ho pins s σ H _ I h) fun v s1 ⟨x, H1, I1, r1, ty, q1⟩ => ?_)
  obtain ⟨h1, h2⟩ := tyV_is I1 r1 ty
  exact ⟨T, id, pa, slot, hty, h1, h2, Calls.callWith_builtin rfl (PySem.evalArgs_none (hm pins s1 σ H1 x [] v [] Q I1 r1 .nil q1))⟩
theorem pe_bm (pa : PlainAttrs T) (slot : Slot T name id) (hty : typeOf (.builtin id) = pure (.type "method_descriptor")) (hm : MtR X id r) (ho : PE X o to) (ha : PA X (e :: es) t)
    (hbase : attributeBase o name X.env (eval o X.env) = eval o X.env := by rfl)
    (hfew : ((backTo cpos (starEach (e :: es) X.env)).all (fun x => !x.1) && (backToKw cpos (keywordEach [] X.env)).all (fun x => x.1.isSome)
      && decide ((e :: es).length + ([] : List Keyword).length + (if ([] : List Keyword).isEmpty then 0 else 1) < 30)) = true := by rfl)
    (hline : (apos.endLine == cpos.line) = true := by rfl) (hs : starEach (e :: es) X.env = (false, eval e X.env) :: starEach es X.env := by rfl) (hplain : (backTo cpos (starEach es X.env)).any (·.1) = false := by rfl) :
    PE X (.Call (.Attribute o name apos) (e :: es) [] cpos) (tBM X.K T r to t) := by
  intro pins s σ H Q I h
  refine wpAny_Call_method_late hbase hfew hline rfl (thn (ho pins s σ H _ I h) fun v s1 ⟨x, H1, I1, r1, ty, q1⟩ => ?_)
  obtain ⟨h1, h2⟩ := tyV_is I1 r1 ty
  refine ⟨T, id, pa, slot, hty, h1, h2, ?_⟩
  have hA := ha cpos pins s1 σ H1 _ I1 q1
  rw [hs] at hA ⊢
  refine Calls.callWith_builtin (by show (false || (backTo cpos (starEach es X.env)).any (·.1)) = false; rw [hplain] <;> rfl) (Calls.evalArgs_plain ?_)
  exact thn hA fun us s2 ⟨vs, H2, I2, r2, q2⟩ => hm pins s2 σ H2 x vs v us Q I2 r1 r2 q2
end
end L2

namespace L2
open PySem PySem.Spec PyProof.Rows

def MtM (X : Cx) (id : String) (r : V → List V → Hp → VK → Prop) : Prop :=
  ∀ (pins : List (Addr × Obj)) (s : Shared) (σ : St) (H : Hp) (x : V) (xs : List V) (v : Value) (us : List Value) (Q : VK), Inv X pins σ H s → RelV x v → Vals xs us → r x xs H Q →
    wpAny (model X.prog X.w) X.A (call (.builtin id) (v :: us)) (EP X pins σ Q) X.xe s

theorem Vals.one : ∀ {x : V} {us : List Value}, Vals [x] us → ∃ u, us = [u] ∧ RelV x u
  | _, _, .cons r .nil => ⟨_, rfl, r⟩
theorem Vals.two : ∀ {x y : V} {us : List Value}, Vals [x, y] us → ∃ u v, us = [u, v] ∧ RelV x u ∧ RelV y v
  | _, _, _, .cons r (.cons q .nil) => ⟨_, _, rfl, r, q⟩
theorem Vals.zero : ∀ {us : List Value}, Vals [] us → us = []
  | _, .nil => rfl
theorem Vals.dropLast {xs : List V} {us : List Value} (h : Vals xs us) : Vals xs.dropLast us.dropLast := by
  induction h with
  | nil => exact .nil
  | cons r t ih =>
    cases t with
    | nil => exact .nil
    | cons q t' => exact .cons r ih
theorem Vals.eraseIdx : ∀ {xs : List V} {us : List Value} (i : Nat), Vals xs us → Vals (xs.eraseIdx i) (us.eraseIdx i)
  | _, _, _, .nil => .nil
  | _, _, 0, .cons _ t => t
  | _, _, i + 1, .cons r t => .cons r (Vals.eraseIdx i t)
theorem Vals.reverse {xs : List V} {us : List Value} (h : Vals xs us) : Vals xs.reverse us.reverse := by
  induction h with
  | nil => exact .nil
  | cons r t ih => rw [List.reverse_cons, List.reverse_cons]; exact Vals.append ih (.cons r .nil)
theorem Vals.rep {xs : List V} {us : List Value} (h : Vals xs us) : ∀ k : Nat, Vals (List.replicate k xs).flatten (List.replicate k us).flatten
  | 0 => .nil
  | k + 1 => by
    rw [List.replicate_succ, List.replicate_succ, List.flatten_cons, List.flatten_cons]
    exact Vals.append h (Vals.rep h k)
theorem erase_last {α : Type} (l : List α) : l.eraseIdx (l.length - 1) = l.dropLast := by
  induction l with
  | nil => rfl
  | cons a r ih =>
    cases r with
    | nil => rfl
    | cons b r =>
      have e : (a :: b :: r).length - 1 = ((b :: r).length - 1) + 1 := by
        have h1 : (a :: b :: r).length = r.length + 2 := rfl
        have h2 : (b :: r).length = r.length + 1 := rfl
        omega
      rw [e, List.eraseIdx_cons_succ, ih]
      all_goals rfl
theorem foldl_rep (its : List Value) : ∀ (k : Nat) (acc : List Value),
    List.foldl (fun x1 x2 => x1 ++ x2) acc.toArray (List.replicate k its.toArray) = (acc ++ (List.replicate k its).flatten).toArray
  | 0, acc => by simp
  | k + 1, acc => by
    have e : acc.toArray ++ its.toArray = (acc ++ its).toArray := by simp
    have e2 : (acc ++ its) ++ (List.replicate k its).flatten = acc ++ (List.replicate (k + 1) its).flatten := by
      rw [List.replicate_succ, List.flatten_cons, List.append_assoc]
    rw [← e2, ← foldl_rep its k (acc ++ its), ← e, List.replicate_succ, List.foldl_cons]

section
variable {X : Cx} {pins : List (Addr × Obj)} {σ : St} {H : Hp} {s : Shared} {l b : Addr} {xs ys zs : List V}

theorem Inv.lset {its its' : List Value} {n : Nat} {f : Array Value → Array Value} {t' : Nat} (I : Inv X pins σ H s) (hH : H l = some (.lst xs))
    (e : s.heap.get? l = some { cls := .type "list", data := .seq its.toArray n }) (hf : f its.toArray = its'.toArray) (hv : Vals ys its') (hz : ys.length ≤ sizeLine) :
    Inv X pins σ (upd H l (.lst ys)) { s with heap := s.heap.update l (Obj.mapSeq f), toks := t' } := by
  have q := PySem.IsL.update e f
  rw [hf] at q
  refine I.write (x := l) (e := l) (by rw [hH]; exact trivial) (.inl rfl) (fun b' u hb hu => (Heap.get?_update_other s.heap (Obj.mapSeq f) (Ne.symm hb)).trans hu) ⟨_, q⟩ ?_
  exact ⟨hz, its', _, hv, q⟩
theorem Inv.lnew {its : List Value} {t' : Nat} (I : Inv X pins σ H s) (hv : Vals ys its) (hz : ys.length ≤ sizeLine) :
    Inv X pins σ (upd H s.heap.objs.size (.lst ys)) { s with heap := s.heap.push { cls := .type "list", data := .seq its.toArray }, toks := t' } :=
  I.laid (fun _ _ q => Heap.get?_push_of_some _ q) (Nat.le_refl _) ⟨hz, its, 0, hv, Heap.get?_push_size _ rfl⟩
theorem Inv.fresh (I : Inv X pins σ H s) : H s.heap.objs.size = none := I.hok.fresh (Nat.le_refl _)
theorem Inv.lstM (I : Inv X pins σ H s) (hH : H l = some (.lst xs)) : xs.length ≤ sizeLine ∧ ∃ (its : List Value) (n : Nat), Vals xs its ∧ xs.length = its.length ∧ s.heap.get? l = some { cls := .type "list", data := .seq its.toArray n } := by
  obtain ⟨z, its, n, r, e⟩ := I.hok l _ hH
  exact ⟨z, its, n, r, r.length, e⟩

theorem notLongL {n : Nat} (h : n ≤ sizeLine) : Builtin.List.listTooLong n = false := by
  unfold Builtin.List.listTooLong
  exact decide_eq_false (by omega)
end

section
variable {X : Cx}

def rAppend : V → List V → Hp → VK → Prop := fun x vs H Q => ∃ l xs y, x = .ref l ∧ vs = [y] ∧ H l = some (.lst xs) ∧ xs.length < sizeLine ∧ Q .non (upd H l (.lst (xs ++ [y])))
theorem mt_append : MtM X "list.append" rAppend := by
  intro pins s σ H x vs v us Q I rx rv h
  obtain ⟨l, xs, y, rfl, rfl, hH, hz, q⟩ := h
  cases rx
  obtain ⟨u, rfl, ru⟩ := rv.one
  obtain ⟨z, its, n, r, hl, e⟩ := I.lstM hH
  refine call_meets F.slot_list_append ⟨_, e, rfl⟩ F.entry_list_append (F.args_list_append_2 _ _) (PySem.list_append l its.toArray n u (by rw [List.size_toArray]; omega)) ⟨e, ?_⟩
  refine ⟨.non, _, I.lset (its' := its ++ [u]) hH e (by simp) (r.append (.cons ru .nil)) ?_, rfl, q⟩
  rw [List.length_append, List.length_singleton]
  omega

def rPop : V → List V → Hp → VK → Prop := fun x vs H Q => ∃ l xs y, x = .ref l ∧ vs = [] ∧ H l = some (.lst xs) ∧ xs[xs.length - 1]? = some y ∧ Q y (upd H l (.lst xs.dropLast))
theorem mt_pop : MtM X "list.pop" rPop := by
  intro pins s σ H x vs v us Q I rx rv h
  obtain ⟨l, xs, y, rfl, rfl, hH, hy, q⟩ := h
  cases rx
  have hus := rv.zero
  subst hus
  obtain ⟨z, its, n, r, hl, e⟩ := I.lstM hH
  obtain ⟨u, hu, ru⟩ := r.get hy
  have hy' : its.toArray[its.toArray.size - 1]? = some u := by
    show its.toArray[its.length - 1]? = some u
    rw [← Array.getElem?_toList, ← hl]
    exact hu
  refine call_meets F.slot_list_pop ⟨_, e, rfl⟩ F.entry_list_pop (F.args_list_pop_1 _) (MeetsSeq.list_pop_last l its.toArray n u hy' (by rw [List.size_toArray]; omega)) ⟨e, ?_⟩
  refine ⟨y, _, I.lset (its' := its.dropLast) hH e ?_ r.dropLast ?_, ru, q⟩
  · show its.toArray.eraseIdxIfInBounds (its.toArray.size - 1) = its.dropLast.toArray
    rw [List.size_toArray, List.eraseIdxIfInBounds_toArray, erase_last]
  · rw [List.length_dropLast]
    omega

def rCat : R2 := fun x y H Q => ∃ l b xs zs, x = .ref l ∧ y = .ref b ∧ H l = some (.lst xs) ∧ H b = some (.lst zs) ∧ xs.length + zs.length ≤ sizeLine ∧ ∀ p, H p = none → Q (.ref p) (upd H p (.lst (xs ++ zs)))
theorem op_cat : OpR X (binaryOp .Add) rCat := by
  intro pins s σ H x y v u Q I rx ry h
  obtain ⟨l, b, xs, zs, rfl, rfl, hH, hB, hz, q⟩ := h
  cases rx
  cases ry
  obtain ⟨z, its, n, r, hl, e⟩ := I.lstM hH
  obtain ⟨z2, its2, n2, r2, hl2, e2⟩ := I.lstM hB
  refine PySem.P.add_list e e2 ?_ (by rw [List.size_toArray, List.size_toArray]; omega)
  have ea : its.toArray ++ its2.toArray = (its ++ its2).toArray := by simp
  rw [ea]
  exact ⟨.ref _, _, I.lnew (t' := s.toks) (r.append r2) (by rw [List.length_append]; omega), rfl, q _ I.fresh⟩
/-- a list times an int (a negative one is nothing) -/
def rRep : R2 := fun x y H Q => ∃ l k xs, x = .ref l ∧ y = .int k ∧ H l = some (.lst xs) ∧ -(2 ^ 63) ≤ k ∧ k < 2 ^ 63 ∧ xs.length * k.toNat ≤ sizeLine ∧
  ∀ p, H p = none → Q (.ref p) (upd H p (.lst (List.replicate k.toNat xs).flatten))
theorem len_rep {α : Type} (xs : List α) (k : Nat) : (List.replicate k xs).flatten.length = k * xs.length := by
  induction k with
  | zero => simp
  | succ k ih => rw [List.replicate_succ, List.flatten_cons, List.length_append, ih, Nat.succ_mul, Nat.add_comm]
theorem op_rep : OpR X (binaryOp .Mult) rRep := by
  intro pins s σ H x y v u Q I rx ry h
  obtain ⟨l, k, xs, rfl, rfl, hH, h1, h2, hz, q⟩ := h
  cases rx
  obtain ⟨t, rfl⟩ := ry
  obtain ⟨z, its, n, r, hl, e⟩ := I.lstM hH
  have hlen : its.toArray.size * k.toNat ≤ sizeLine := by rw [List.size_toArray, ← hl]; exact hz
  have hcap : ¬ its.toArray.size * k.toNat > (2 ^ 63 - 1) / 8 := by
    have : (sizeLine : Nat) ≤ (2 ^ 63 - 1) / 8 := by decide
    omega
  have hfit : ¬ (!Builtin.List.listFitsIndex k) = true := by
    rw [fitsIndex_both h1 h2]
    exact Bool.false_ne_true
  have hlong : ¬ Builtin.List.listTooLong (its.toArray.size * k.toNat) = true := by
    rw [notLongL hlen]
    exact Bool.false_ne_true
  have hnew : List.foldl (fun x1 x2 => x1 ++ x2) #[] (List.replicate (if its.toArray.isEmpty = true then 0 else k.toNat) its.toArray) = (List.replicate k.toNat its).flatten.toArray := by
    have f0 : ∀ m : Nat, List.foldl (fun x1 x2 => x1 ++ x2) #[] (List.replicate m its.toArray) = (List.replicate m its).flatten.toArray := fun m => by
      have := foldl_rep its m []
      rw [List.nil_append] at this
      exact this
    rw [f0]
    cases its with
    | nil => simp
    | cons a r' => rw [if_neg (by simp)]
  refine wpAny_binaryOp_repeat_ref (T := "list") (U := "int") (by decide) ⟨_, e, rfl⟩ (fun s' => typeIs_int s' k t) noFill_list_mul F.fills_int_mul F.slot_int_rmul repeat_list F.slot_int_index.lookup
    (call_meets F.slot_int_rmul (typeIs_int s k t) F.entry_int_rmul (F.args_int_rmul_2 _ _) (int___rmul___int_list k t l its.toArray n)
      ⟨e, rfl, ⟨_, e, rfl⟩, call_meets F.slot_list_mul ⟨_, e, rfl⟩ F.entry_list_mul (F.args_list_mul_2 _ _) (AutoListH.list___mul___list_int_3 l its.toArray n k t hfit hcap hlong) ⟨e, ?_⟩⟩)
  rw [hnew]
  exact ⟨.ref _, _, I.lnew (t' := s.toks) (r.rep k.toNat) (by rw [len_rep, Nat.mul_comm]; exact hz), rfl, q _ I.fresh⟩

end

section
variable {prog : Program} {w : World} {A : Around} {E : Value → Shared → Prop} {s : Shared}
end

section
variable {X : Cx}
end
end L2

namespace L2
open PySem PySem.Spec PyProof.Rows

theorem Vals.ints : ∀ {ns : List Int} {us : List Value}, Vals (ns.map V.int) us → IntsAre us ns
  | [], us, h => by
    rw [List.map_nil] at h
    cases h
    exact IntsAre.nil
  | n :: ns, us, h => by
    rw [List.map_cons] at h
    cases h with
    | cons r t =>
      obtain ⟨k, rfl⟩ := r
      exact IntsAre.cons n k (Vals.ints t)
theorem Vals.strs : ∀ {xs : List Str} {us : List Value}, Vals (xs.map V.str) us → StrsAre us xs
  | [], us, h => by
    rw [List.map_nil] at h
    cases h
    exact StrsAre.nil
  | x :: xs, us, h => by
    rw [List.map_cons] at h
    cases h with
    | cons r t =>
      obtain ⟨k, rfl⟩ := r
      exact StrsAre.cons x k (Vals.strs t)
theorem Vals.bls : ∀ {bs : List Bool} {us : List Value}, Vals (bs.map V.bl) us → us = bs.map Value.bool
  | [], us, h => by
    rw [List.map_nil] at h
    cases h
    rfl
  | b :: bs, us, h => by
    rw [List.map_cons] at h
    cases h with
    | cons r t =>
      cases r
      rw [Vals.bls t, List.map_cons]
theorem Vals.ref1 {a : Addr} {us : List Value} (r : Vals [V.ref a] us) : us = [Value.ref a] := by
  cases r with
  | cons r t =>
    cases t
    cases r
    rfl
section
variable {prog : Program} {w : World} {A : Around} {E : Value → Shared → Prop} {s : Shared} {l : Addr} {its : List Value} {ns : List Int} {Q : Value → Shared → Prop}
theorem sum_raw (hh : A.handled = none) (hl : s.heap.IsList l its.toArray) (hi : IntsAre its ns)
    (h : ∀ h' tk t', (∀ b o, s.heap.get? b = some o → h'.get? b = some o) → Q (.int ns.sum t') { s with heap := h', toks := tk }) : wpAny (model prog w) A (call (.builtin "sum") [.ref l]) Q E s := by
  obtain ⟨xs, e⟩ := hi.allInts.items
  have hn : numsOf (intItems xs).toList = ns := by rw [← e]; exact hi.numsOf
  rw [nums_intItems] at hn
  rw [e] at hl
  refine PySem.sum_intListG hh hl fun h' tk t' hk => ?_
  have := h h' tk t' hk
  rw [preSum_eq, List.take_of_length_le (by simp), hn]; exact this
theorem max_raw (hh : A.handled = none) (hl : s.heap.IsList l its.toArray) (hi : IntsAre its ns) (hne : 0 < ns.length)
    (h : ∀ h' tk M t', (∀ b o, s.heap.get? b = some o → h'.get? b = some o) → M ∈ ns → (∀ a, a ∈ ns → a ≤ M) → Q (.int M t') { s with heap := h', toks := tk }) : wpAny (model prog w) A (call (.builtin "max") [.ref l]) Q E s := by
  obtain ⟨xs, e⟩ := hi.allInts.items
  have hn : numsOf (intItems xs).toList = ns := by rw [← e]; exact hi.numsOf
  rw [nums_intItems] at hn
  subst hn
  rw [e] at hl
  have hsz : 0 < xs.size := by simpa using hne
  refine PySem.max_intList hh hl hsz fun v h' tk hv hk => ?_
  obtain ⟨t, rfl⟩ := intItems_at hv
  obtain ⟨h1, h2⟩ := argBest_gt (numAt xs) (xs.size - 1)
  refine h h' tk _ t hk ?_ fun a ha => ?_
  · rw [numAt_eq]; exact PySem.getD_mem (by rw [List.length_map, Array.length_toList]; omega)
  · obtain ⟨j, hj, rfl⟩ := mem_getD ha
    rw [List.length_map, Array.length_toList] at hj
    rw [← numAt_eq]; exact h2 j (by omega)
theorem min_raw (hh : A.handled = none) (hl : s.heap.IsList l its.toArray) (hi : IntsAre its ns) (hne : 0 < ns.length)
    (h : ∀ h' tk M t', (∀ b o, s.heap.get? b = some o → h'.get? b = some o) → M ∈ ns → (∀ a, a ∈ ns → M ≤ a) → Q (.int M t') { s with heap := h', toks := tk }) : wpAny (model prog w) A (call (.builtin "min") [.ref l]) Q E s := by
  obtain ⟨xs, e⟩ := hi.allInts.items
  have hn : numsOf (intItems xs).toList = ns := by rw [← e]; exact hi.numsOf
  rw [nums_intItems] at hn
  subst hn
  rw [e] at hl
  have hsz : 0 < xs.size := by simpa using hne
  refine PySem.min_intList hh hl hsz fun v h' tk hv hk => ?_
  obtain ⟨t, rfl⟩ := intItems_at hv
  obtain ⟨h1, h2⟩ := argBest_lt (numAt xs) (xs.size - 1)
  refine h h' tk _ t hk ?_ fun a ha => ?_
  · rw [numAt_eq]; exact PySem.getD_mem (by rw [List.length_map, Array.length_toList]; omega)
  · obtain ⟨j, hj, rfl⟩ := mem_getD ha
    rw [List.length_map, Array.length_toList] at hj
    rw [← numAt_eq]; exact h2 j (by omega)
end

section
variable {X : Cx}
/-- sum(xs) of a list of ints -/
def rSum (K : PySem.W.Frag) : List V → Hp → VK → Prop := fun vs H Q => ∃ (a : Addr) (ns : List Int), vs = [V.ref a] ∧ SqL K H a (ns.map V.int) ∧ Q (.int ns.sum) H
/-- max(xs), min(xs) of a list of ints -/
def rMax (K : PySem.W.Frag) : List V → Hp → VK → Prop := fun vs H Q => ∃ (a : Addr) (ns : List Int), vs = [V.ref a] ∧ SqL K H a (ns.map V.int) ∧ 0 < ns.length ∧ ∀ m, m ∈ ns → (∀ y, y ∈ ns → y ≤ m) → Q (.int m) H
def rMin (K : PySem.W.Frag) : List V → Hp → VK → Prop := fun vs H Q => ∃ (a : Addr) (ns : List Int), vs = [V.ref a] ∧ SqL K H a (ns.map V.int) ∧ 0 < ns.length ∧ ∀ m, m ∈ ns → (∀ y, y ∈ ns → m ≤ y) → Q (.int m) H
theorem cr_sum (hc : X.calm = true) : CallR X (.builtin "sum") (rSum X.K) := by
  intro pins s σ H vs us Q I r h
  obtain ⟨a, ns, rfl, hs, q⟩ := h
  obtain ⟨its, rv, hl, _⟩ := I.list hs
  rw [Vals.ref1 r]
  exact sum_raw (I.ok.hd hc) hl.isList rv.ints fun h' tk t' hk => ⟨.int _, H, I.kept hk, ⟨_, rfl⟩, q⟩
theorem cr_max (hc : X.calm = true) : CallR X (.builtin "max") (rMax X.K) := by
  intro pins s σ H vs us Q I r h
  obtain ⟨a, ns, rfl, hs, hne, q⟩ := h
  obtain ⟨its, rv, hl, _⟩ := I.list hs
  rw [Vals.ref1 r]
  exact max_raw (I.ok.hd hc) hl.isList rv.ints hne fun h' tk m t' hk h1 h2 => ⟨.int _, H, I.kept hk, ⟨_, rfl⟩, q m h1 h2⟩
theorem cr_min (hc : X.calm = true) : CallR X (.builtin "min") (rMin X.K) := by
  intro pins s σ H vs us Q I r h
  obtain ⟨a, ns, rfl, hs, hne, q⟩ := h
  obtain ⟨its, rv, hl, _⟩ := I.list hs
  rw [Vals.ref1 r]
  exact min_raw (I.ok.hd hc) hl.isList rv.ints hne fun h' tk m t' hk h1 h2 => ⟨.int _, H, I.kept hk, ⟨_, rfl⟩, q m h1 h2⟩

end

section
variable {X : Cx}
end

section
variable {X : Cx}
end

section
variable {X : Cx}
end

mutual
inductive Dp (K : PySem.W.Frag) (H : Hp) : V → PyData → Prop
  | non : Dp K H .non .none
  | bl (b : Bool) : Dp K H (.bl b) (.bool b)
  | int (i : Int) : Dp K H (.int i) (.int i)
  | str (x : Str) : Dp K H (.str x) (.str x)
  | lst {a : Addr} {xs : List V} {ds : List PyData} : SqL K H a xs → DpAll K H xs ds → Dp K H (.ref a) (.list ds)
  | tup {a : Addr} {xs : List V} {ds : List PyData} : SqT K H a xs → DpAll K H xs ds → Dp K H (.ref a) (.tuple ds)
inductive DpAll (K : PySem.W.Frag) (H : Hp) : List V → List PyData → Prop
  | nil : DpAll K H [] []
  | cons {v : V} {vs : List V} {d : PyData} {ds : List PyData} : Dp K H v d → DpAll K H vs ds → DpAll K H (v :: vs) (d :: ds)
end
section
variable {X : Cx} {pins : List (Addr × Obj)} {σ : St} {H : Hp} {s : Shared}
mutual
theorem Dp.reads (I : Inv X pins σ H s) : ∀ (d : PyData) (v : V) (u : Value), Dp X.K H v d → RelV v u → ∃ as, Reads s.heap u d as
  | .none, _, _, h, r => by
    cases h
    cases r
    exact ⟨_, Reads.none⟩
  | .bool b, _, _, h, r => by
    cases h
    cases r
    exact ⟨_, Reads.bool b⟩
  | .int i, _, _, h, r => by
    cases h
    obtain ⟨t, rfl⟩ := r
    exact ⟨_, Reads.int i t⟩
  | .str x, _, _, h, r => by
    cases h
    obtain ⟨t, rfl⟩ := r
    exact ⟨_, Reads.str x t⟩
  | .list ds, _, _, h, r => by
    cases h with
    | lst hs ha =>
      cases r
      obtain ⟨its, rv, ⟨o, n, ho, hc, _, hd⟩, _⟩ := I.list hs
      obtain ⟨as, hr⟩ := Dp.readsAll I ds _ its ha rv
      exact ⟨_, Reads.list ho hc hd hr⟩
  | .tuple ds, _, _, h, r => by
    cases h with
    | tup hs ha =>
      cases r
      obtain ⟨its, rv, ⟨o, ho, hc, n, hd⟩, _⟩ := I.tuple hs
      obtain ⟨as, hr⟩ := Dp.readsAll I ds _ its ha rv
      exact ⟨_, Reads.tuple ho hc hd hr⟩
  | .dict _, _, _, h, _ => by cases h
theorem Dp.readsAll (I : Inv X pins σ H s) : ∀ (ds : List PyData) (vs : List V) (us : List Value), DpAll X.K H vs ds → Vals vs us → ∃ as, ReadsAll s.heap us ds as
  | [], _, _, h, r => by
    cases h
    cases r
    exact ⟨_, ReadsAll.nil⟩
  | d :: ds, _, _, h, r => by
    cases h with
    | cons h1 h2 =>
      cases r with
      | cons r1 r2 =>
        obtain ⟨as, q1⟩ := Dp.reads I d _ _ h1 r1
        obtain ⟨bs, q2⟩ := Dp.readsAll I ds _ _ h2 r2
        exact ⟨_, ReadsAll.cons q1 q2⟩
end
end
section
variable {X : Cx}
def rEqD (K : PySem.W.Frag) : R2 := fun x y H Q => ∃ d e, Dp K H x d ∧ Dp K H y e ∧ SeqAt.shaped d = true ∧ SeqAt.shaped e = true ∧ Q (.bl (PyData.eqv d e)) H
def rNeD (K : PySem.W.Frag) : R2 := fun x y H Q => ∃ d e, Dp K H x d ∧ Dp K H y e ∧ SeqAt.shaped d = true ∧ SeqAt.shaped e = true ∧ Q (.bl (!PyData.eqv d e)) H
theorem op_eqD (hu : X.A.units + 64 < cLine) : OpR X (compareOp .Eq) (rEqD X.K) := by
  intro pins s σ H x y v u Q I rx ry h
  obtain ⟨d, e, hd, he, sd, se, q⟩ := h
  obtain ⟨as, r1⟩ := Dp.reads I d x v hd rx
  obtain ⟨bs, r2⟩ := Dp.reads I e y u he ry
  exact SeqAt.compareEq_shaped r1 r2 sd se hu ⟨.bl _, H, I, rfl, q⟩
theorem op_neD (hu : X.A.units + 64 < cLine) : OpR X (compareOp .NotEq) (rNeD X.K) := by
  intro pins s σ H x y v u Q I rx ry h
  obtain ⟨d, e, hd, he, sd, se, q⟩ := h
  obtain ⟨as, r1⟩ := Dp.reads I d x v hd rx
  obtain ⟨bs, r2⟩ := Dp.reads I e y u he ry
  exact SeqAt.compareNe_shaped r1 r2 sd se hu ⟨.bl _, H, I, rfl, q⟩
end
end L2

namespace L2
open PySem PySem.Spec PyProof.Rows
abbrev CellAt (h : Heap) (c : Addr) (v : Option Value) : Prop := h.IsCell c v
def relS (scope sc : Scope) : Scope :=
  { scope with names := scope.names.map fun (n, k) => if (k == .free && sc.kind == .function && sc.names.lookup n == some .cell) then (n, .cell) else (n, k) }

def cloFrom (cells : List (Str × Addr)) : List (Str × NameKind) → List (Str × Addr) → List (Str × Addr)
  | [], acc => acc
  | (n, k) :: r, acc => if k == .free then cloFrom cells r ((n, (cells.lookup n).getD 0) :: acc) else cloFrom cells r acc

theorem closure_loop (env : Env) (f : Str × NameKind → List (Str × Addr) → Sem (ForInStep (List (Str × Addr))))
    (hf : ∀ n k c, f (n, k) c = if k == .free then (do let a ← cellOf env n; pure (.yield ((n, a) :: c))) else pure (.yield c)) :
    ∀ (names : List (Str × NameKind)) (acc : List (Str × Addr)), (∀ y ∈ names, y.2 = .free → ∃ c, env.cells.lookup y.1 = some c) → forIn names acc f = pure (cloFrom env.cells names acc)
  | [], acc, _ => by rw [List.forIn_nil]; rfl
  | (n, k) :: r, acc, h => by
    rw [List.forIn_cons, hf]
    have ih := fun acc => closure_loop env f hf r acc fun y hy => h y (List.mem_cons_of_mem _ hy)
    unfold cloFrom
    by_cases hk : (k == NameKind.free) = true
    · rw [if_pos hk, if_pos hk]
      obtain ⟨c, hc⟩ := h (n, k) List.mem_cons_self (by simpa using hk)
      have e : cellOf env n = pure c := by unfold cellOf; rw [hc]
      rw [e]
      have e2 : (env.cells.lookup n).getD 0 = c := by rw [hc]; rfl
      rw [e2]
      exact ih _
    · rw [if_neg hk, if_neg hk]
      exact ih _
theorem closure_ok {scope : Scope} {env : Env} (h : ∀ y ∈ scope.names, y.2 = .free → ∃ c, env.cells.lookup y.1 = some c) : closureFor scope env = pure (cloFrom env.cells scope.names []) := by
  simp only [closureFor]
  rw [closure_loop env _ (fun n k c => rfl) scope.names [] h]
  rfl

theorem mem_lookup {α : Type} : ∀ {l : List (Str × α)} {n : Str} {c : α}, (n, c) ∈ l → ∃ c', l.lookup n = some c'
  | (k, v) :: r, n, c, h => by
    rw [List.lookup_cons]
    cases hb : n == k with
    | true => exact ⟨_, rfl⟩
    | false =>
      rcases List.mem_cons.mp h with e | h
      · cases e; simp at hb
      · exact mem_lookup h

theorem cloFrom_mem {cells : List (Str × Addr)} : ∀ {names : List (Str × NameKind)} {acc : List (Str × Addr)} {n : Str} {c : Addr}, (n, c) ∈ cloFrom cells names acc → (n, c) ∈ acc ∨ ((n, .free) ∈ names ∧ c = (cells.lookup n).getD 0)
  | [], _, _, _, h => .inl h
  | (m, k) :: r, acc, n, c, h => by
    unfold cloFrom at h
    split at h
    · rename_i hk
      have hk : k = .free := by simpa using hk
      rcases cloFrom_mem h with h | ⟨h1, h2⟩
      · rcases List.mem_cons.mp h with e | h
        · cases e; exact .inr ⟨hk ▸ List.mem_cons_self, rfl⟩
        · exact .inl h
      · exact .inr ⟨List.mem_cons_of_mem _ h1, h2⟩
    · rcases cloFrom_mem h with h | ⟨h1, h2⟩
      · exact .inl h
      · exact .inr ⟨List.mem_cons_of_mem _ h1, h2⟩
theorem cloFrom_acc {cells : List (Str × Addr)} : ∀ {names : List (Str × NameKind)} {acc : List (Str × Addr)} {p : Str × Addr}, p ∈ acc → p ∈ cloFrom cells names acc
  | [], _, _, h => h
  | (m, k) :: r, acc, p, h => by
    unfold cloFrom
    split
    · exact cloFrom_acc (List.mem_cons_of_mem _ h)
    · exact cloFrom_acc h
theorem cloFrom_has {cells : List (Str × Addr)} : ∀ {names : List (Str × NameKind)} {acc : List (Str × Addr)} {n : Str}, (n, .free) ∈ names → (n, (cells.lookup n).getD 0) ∈ cloFrom cells names acc
  | (m, k) :: r, acc, n, h => by
    unfold cloFrom
    rcases List.mem_cons.mp h with e | h
    · cases e
      exact cloFrom_acc List.mem_cons_self
    · split
      · exact cloFrom_has h
      · exact cloFrom_has h

theorem cells_mem : ∀ {names : List (Str × NameKind)} {h : Heap} {acc : List (Str × Addr)} {x : Str} {c : Addr}, (x, c) ∈ cellsFrom h.objs.size names acc →
    (x, c) ∈ acc ∨ ((x, .cell) ∈ names ∧ h.objs.size ≤ c ∧ CellAt (pushCells h names) c none)
  | [], _, _, _, _, h => .inl h
  | (n, k) :: r, h, acc, x, c, hm => by
    unfold cellsFrom at hm
    unfold pushCells
    split at hm
    · rename_i hk
      rw [if_pos hk]
      have hk : k = .cell := by simpa using hk
      rw [← Heap.size_push h { cls := .type "cell", data := .cell none }] at hm
      rcases cells_mem hm with hm | ⟨h1, h2, h3⟩
      · rcases List.mem_cons.mp hm with e | hm
        · cases e
          exact .inr ⟨hk ▸ List.mem_cons_self, Nat.le_refl _, _, pushCells_keeps r _ _ _ (Heap.get?_push_size _ rfl), rfl⟩
        · exact .inl hm
      · rw [Heap.size_push] at h2
        exact .inr ⟨List.mem_cons_of_mem _ h1, Nat.le_of_succ_le h2, h3⟩
    · rename_i hk
      rw [if_neg hk]
      rcases cells_mem hm with hm | ⟨h1, h2, h3⟩
      · exact .inl hm
      · exact .inr ⟨List.mem_cons_of_mem _ h1, h2, h3⟩
theorem cells_acc : ∀ {names : List (Str × NameKind)} {n : Nat} {acc : List (Str × Addr)} {p : Str × Addr}, p ∈ acc → p ∈ cellsFrom n names acc
  | [], _, _, _, h => h
  | (m, k) :: r, n, acc, p, h => by
    unfold cellsFrom
    split
    · exact cells_acc (List.mem_cons_of_mem _ h)
    · exact cells_acc h
theorem cells_has : ∀ {names : List (Str × NameKind)} {n : Nat} {acc : List (Str × Addr)} {x : Str}, (x, .cell) ∈ names → ∃ c, (x, c) ∈ cellsFrom n names acc
  | (m, k) :: r, n, acc, x, h => by
    unfold cellsFrom
    rcases List.mem_cons.mp h with e | h
    · cases e
      exact ⟨n, cells_acc List.mem_cons_self⟩
    · split
      · exact cells_has h
      · exact cells_has h
theorem cells_inj : ∀ {names : List (Str × NameKind)} {h : Heap} {acc : List (Str × Addr)} {x y : Str} {c : Addr}, (∀ p ∈ acc, p.2 < h.objs.size) → (∀ x y c, (x, c) ∈ acc → (y, c) ∈ acc → x = y) →
    (x, c) ∈ cellsFrom h.objs.size names acc → (y, c) ∈ cellsFrom h.objs.size names acc → x = y
  | [], _, _, _, _, _, _, hi, h1, h2 => hi _ _ _ h1 h2
  | (n, k) :: r, h, acc, x, y, c, hl, hi, h1, h2 => by
    unfold cellsFrom at h1 h2
    split at h1
    · rename_i hk
      rw [if_pos hk] at h2
      rw [← Heap.size_push h { cls := .type "cell", data := .cell none }] at h1 h2
      refine cells_inj (h := h.push _) (fun p hp => ?_) (fun x y c a b => ?_) h1 h2
      · rw [Heap.size_push]
        rcases List.mem_cons.mp hp with rfl | hp
        · exact Nat.lt_succ_self _
        · exact Nat.lt_succ_of_lt (hl p hp)
      · rcases List.mem_cons.mp a with e | a <;> rcases List.mem_cons.mp b with e' | b
        · cases e; cases e'; rfl
        · cases e; exact absurd (hl _ b) (Nat.lt_irrefl _)
        · cases e'; exact absurd (hl _ a) (Nat.lt_irrefl _)
        · exact hi _ _ _ a b
    · rename_i hk
      rw [if_neg hk] at h2
      exact cells_inj hl hi h1 h2

theorem newEnv_comp {M : Model} {A : Around} {E : Value → Shared → Prop} {s : Shared} {scope : Scope} {globals : Addr} {closure : List (Str × Addr)} {qual : Str} {func : Option Addr} {code : Value} {around : Env} {builtins : Addr} {Q : Env → Shared → Prop}
    (h : Q (newEnv scope s.heap.objs.size globals (cellsFrom (s.heap.objs.size + 1) scope.names closure) qual func code (some around) builtins)
      { s with heap := pushCells (s.heap.push { cls := .type "dict", data := .dict #[] }) scope.names }) :
    wpAny M A (newFunctionEnv scope globals closure [] qual func code (some around) builtins) Q E s := by
  simp only [newFunctionEnv, Option.isSome_some, if_true]
  refine wpAny_bind (wpAny_alloc ?_)
  refine wpAny_bind (wpAny_layCells _ (fun n k c => rfl) scope.names closure _ _ ?_)
  rw [show ({ s with heap := s.heap.push { cls := .type "dict", data := .dict #[] } } : Shared).heap.objs.size = s.heap.objs.size + 1 from Heap.size_push ..]
  rw [List.forIn_nil]
  exact wpAny_bind (wpAny_pure (wpAny_pure h))

/-- every name of the written scope, in the scope that runs -/
theorem lookup_relS {sc : Scope} : ∀ {names : List (Str × NameKind)} {x : Str} {k : NameKind},
    (names.map fun (n, k) => if (k == NameKind.free && sc.kind == .function && sc.names.lookup n == some .cell) then (n, NameKind.cell) else (n, k)).lookup x = some k →
    ∃ k', names.lookup x = some k' ∧ (k = k' ∨ (k' = .free ∧ k = .cell))
  | [], _, _, h => by simp at h
  | (n, k₀) :: r, x, k, h => by
    have ih := @lookup_relS sc r x k
    have h' : List.lookup x ((if (k₀ == NameKind.free && sc.kind == .function && sc.names.lookup n == some .cell) = true then (n, NameKind.cell) else (n, k₀)) :: (r.map _)) = some k := h
    cases hx : x == n with
    | true =>
      simp only [List.lookup_cons, hx]
      by_cases hc : (k₀ == NameKind.free && sc.kind == .function && sc.names.lookup n == some .cell) = true
      · rw [if_pos hc] at h'
        simp only [List.lookup_cons, hx] at h'
        cases h'
        simp only [Bool.and_eq_true, beq_iff_eq] at hc
        exact ⟨k₀, rfl, .inr ⟨hc.1.1, rfl⟩⟩
      · rw [if_neg hc] at h'
        simp only [List.lookup_cons, hx] at h'
        cases h'
        exact ⟨_, rfl, .inl rfl⟩
    | false =>
      simp only [List.lookup_cons, hx]
      by_cases hc : (k₀ == NameKind.free && sc.kind == .function && sc.names.lookup n == some .cell) = true
      · rw [if_pos hc] at h'
        simp only [List.lookup_cons, hx] at h'
        exact ih h'
      · rw [if_neg hc] at h'
        simp only [List.lookup_cons, hx] at h'
        exact ih h'
/-- the names of a comprehension's block: its own (with their places in N), or captured -/
structure BlkOk (N : List Str) (sc scope : Scope) (own : List (Str × Nat)) : Prop where
  kind : scope.kind = .function
  uniq : ∀ y ∈ scope.names, scope.names.lookup y.1 = some y.2
  ix : ∀ p ∈ own, N[p.2]? = some p.1
  free : ∀ y ∈ scope.names, y.2 = .free → sc.names.lookup y.1 = some .cell ∨ sc.names.lookup y.1 = some .free
  own : ∀ y ∈ scope.names, y.2 = .local ∨ y.2 = .cell → y.1 ∈ own.map (·.1) ∨ y.1 ∉ N
/-- the slots of the block's own names forgotten -/
def wipe (σ : St) : List Nat → St
  | [] => σ
  | v :: vs => (wipe σ vs).set v none
theorem wipe_length (σ : St) : ∀ vs : List Nat, (wipe σ vs).length = σ.length
  | [] => rfl
  | v :: vs => by unfold wipe; rw [List.length_set, wipe_length σ vs]
theorem wipe_some {σ : St} {i : Nat} {x : V} : ∀ {vs : List Nat}, (wipe σ vs)[i]? = some (some x) → σ[i]? = some (some x) ∧ i ∉ vs
  | [], h => ⟨h, by simp⟩
  | v :: vs, h => by
    unfold wipe at h
    by_cases hi : v = i
    · subst hi
      by_cases hv : v < (wipe σ vs).length
      · rw [List.getElem?_set_self hv] at h; cases h
      · rw [List.getElem?_eq_none (by simpa using hv)] at h; cases h
    · rw [List.getElem?_set_ne hi] at h
      obtain ⟨h1, h2⟩ := wipe_some h
      exact ⟨h1, by simp only [List.mem_cons, not_or]; exact ⟨fun e => hi e.symm, h2⟩⟩

/-- the context of a block that starts at s, its iterator's objects at fp -/
abbrev Cx.blk (X : Cx) (s : Shared) (H : Hp) (scope : Scope) (cenv : Env) (fp : List Addr) : Cx := { X with s_0 := s, H_0 := H, env := cenv, outer := X.stack, ex := fp, fn := fun x => scope.names.lookup x == some .cell, pn := [], xe := fun _ _ => False }
section
variable {X : Cx} {pins : List (Addr × Obj)} {σ : St} {H : Hp} {s : Shared}
theorem block_start {scope : Scope} {own : List (Str × Nat)} {fp : List Addr} (I : Inv X pins σ H s) (ok : BlkOk X.N X.env.scope scope own) (hN : X.N.Nodup) (hfp : ∀ b ∈ fp, FpOk X pins H b ∧ b < s.heap.objs.size) :
    Inv (X.blk s H scope (compEnvC scope (cellsFrom (s.heap.objs.size + 1) scope.names (cloFrom X.env.cells scope.names [])) s.heap.objs.size X.env) fp) [] (wipe σ (own.map (·.2))) H { s with heap := pushCells (s.heap.push { cls := .type "dict", data := .dict #[] }) scope.names } := by
  have hfree : ∀ y ∈ scope.names, y.2 = .free → ∃ c, X.env.cells.lookup y.1 = some c := fun y hy e => by
    rcases ok.free y hy e with k | k
    · exact I.ok.has _ (.inl k)
    · exact I.ok.has _ (.inr k)
  generalize hcenv : compEnvC scope (cellsFrom (s.heap.objs.size + 1) scope.names (cloFrom X.env.cells scope.names [])) s.heap.objs.size X.env = cenv
  have kp : ∀ b o, s.heap.get? b = some o → (pushCells (s.heap.push { cls := .type "dict", data := .dict #[] }) scope.names).get? b = some o := fun b o e => pushCells_keeps _ _ _ _ (Heap.get?_push_of_some _ e)
  have hL : cenv.locals = s.heap.objs.size := by rw [← hcenv]; rfl
  have hcl : cenv.cells = cellsFrom (s.heap.objs.size + 1) scope.names (cloFrom X.env.cells scope.names []) := by rw [← hcenv]; rfl
  have hsc : cenv.scope = relS scope X.env.scope := by rw [← hcenv]; rfl
  rw [← Heap.size_push s.heap { cls := .type "dict", data := .dict #[] }] at hcl
  have cm : ∀ {y c}, (y, c) ∈ cloFrom X.env.cells scope.names [] → X.env.cells.lookup y = some c ∧ c < s.heap.objs.size := fun {y c} hm => by
    rcases cloFrom_mem hm with hm | ⟨h1, rfl⟩
    · cases hm
    · obtain ⟨c, hc⟩ := hfree _ h1 rfl
      rw [hc]
      obtain ⟨w, z⟩ := I.cell _ _ hc
      exact ⟨rfl, z.lt⟩
  have mem : ∀ {y c}, cenv.cells.lookup y = some c → (X.env.cells.lookup y = some c ∧ c < s.heap.objs.size) ∨ (s.heap.objs.size + 1 ≤ c ∧ CellAt (pushCells (s.heap.push { cls := .type "dict", data := .dict #[] }) scope.names) c none) := fun {y c} e => by
    rw [hcl] at e
    rcases cells_mem (PySem.mem_of_lookup e) with hm | ⟨_, h2, h3⟩
    · exact .inl (cm hm)
    · rw [Heap.size_push] at h2; exact .inr ⟨h2, h3⟩
  have look : ∀ {y}, scope.names.lookup y = some .free → ∃ c, cenv.cells.lookup y = some c ∧ X.env.cells.lookup y = some c := fun {y} hl => by
    have hy : (y, NameKind.free) ∈ scope.names := PySem.mem_of_lookup hl
    obtain ⟨c', e'⟩ := mem_lookup (cells_acc (names := scope.names) (n := (s.heap.push { cls := .type "dict", data := .dict #[] }).objs.size) (cloFrom_has (cells := X.env.cells) (acc := []) hy))
    rw [← hcl] at e'
    refine ⟨c', e', ?_⟩
    rw [hcl] at e'
    rcases cells_mem (PySem.mem_of_lookup e') with hm | ⟨h1, _, _⟩
    · exact (cm hm).1
    · have := ok.uniq _ h1
      rw [hl] at this; cases this
  have okB : (X.blk s H scope cenv fp).Ok := by
    refine ⟨I.ok.mod, by show cenv.scope.kind = _; rw [hsc]; exact ok.kind, by show cenv.globals = _; rw [← hcenv]; exact I.ok.glob, by show cenv.builtins = _; rw [← hcenv]; exact I.ok.blt, by show s.heap.objs.size ≤ cenv.locals; rw [hL]; exact Nat.le_refl _,
      fun y z c e1 e2 => ?_, fun y hy => ?_, fun y c z e => ?_, I.ok.hd, I.ok.frames, .inl rfl, fun b hb => ⟨?_, fun y c e z => ?_⟩, I.bs, Nat.le_trans I.ok.bsz I.sz, fun b o e hb => ?_, fun b hb z => ?_, I.stack, I.stkFree, I.ok.tb.un I.base⟩
    · have e1 : cenv.cells.lookup y = some c := e1
      have e2 : cenv.cells.lookup z = some c := e2
      rw [hcl] at e1 e2
      refine cells_inj (fun p hp => ?_) (fun y z c a b => I.ok.inj y z c (cm a).1 (cm b).1) (PySem.mem_of_lookup e1) (PySem.mem_of_lookup e2)
      rw [Heap.size_push]
      exact Nat.lt_succ_of_lt (cm (y := p.1) (c := p.2) hp).2
    · show ∃ c, cenv.cells.lookup y = some c
      have key : ∀ k, cenv.kindOf y = some k → (k = .cell ∨ k = .free) → ∃ c, cenv.cells.lookup y = some c := fun k hk hk' => by
        unfold Env.kindOf at hk
        rw [hsc] at hk
        obtain ⟨k', e, r⟩ := lookup_relS hk
        have : k' = .cell ∨ k' = .free := by
          rcases r with rfl | ⟨rfl, _⟩
          · exact hk'
          · exact .inr rfl
        rcases this with rfl | rfl
        · obtain ⟨c, hm⟩ := cells_has (n := (s.heap.push { cls := .type "dict", data := .dict #[] }).objs.size) (acc := cloFrom X.env.cells scope.names []) (PySem.mem_of_lookup e)
          obtain ⟨c', e'⟩ := mem_lookup hm
          exact ⟨c', by rw [hcl]; exact e'⟩
        · obtain ⟨c, h1, _⟩ := look e
          exact ⟨c, h1⟩
      rcases hy with hy | hy
      · exact key _ hy (.inl rfl)
      · exact key _ hy (.inr rfl)
    · have z : (scope.names.lookup y == some NameKind.cell) = true := z
      have z : scope.names.lookup y = some .cell := by simpa using z
      have e : cenv.cells.lookup y = some c := e
      rw [hcl] at e
      rcases cells_mem (PySem.mem_of_lookup e) with hm | ⟨_, h2, _⟩
      · rcases cloFrom_mem hm with hm | ⟨h1, _⟩
        · cases hm
        · have q := ok.uniq _ h1
          rw [z] at q; cases q
      · rw [Heap.size_push] at h2
        exact Nat.le_of_succ_le h2
    · show b ≠ cenv.locals
      rw [hL]; exact Nat.ne_of_lt (hfp b hb).2
    · have e : cenv.cells.lookup y = some c := e
      rcases mem e with ⟨h1, _⟩ | ⟨h1, _⟩
      · exact (hfp b hb).1.2.2.2.2.1 y c h1 z
      · have h2 : s.heap.objs.size + 1 ≤ b := by rw [← z]; exact h1
        exact absurd (Nat.lt_of_lt_of_le (hfp b hb).2 (Nat.le_of_succ_le h2)) (Nat.lt_irrefl _)
    · rcases (hfp b hb).1.2.2.2.1 with z | z
      · exact I.ok.noex b o e z
      · exact absurd (Nat.lt_of_lt_of_le (Heap.lt_size e) (Nat.le_trans I.ok.bsz z)) (Nat.lt_irrefl _)
    · rcases List.mem_cons.mp (I.stkSub b z) with z | z
      · exact (hfp b hb).1.2.1 z
      · exact (hfp b hb).1.2.2.1 z
  refine ⟨okB, rfl, I.bare, Un.kept kp, ⟨fun _ => none, ?_, fun i y av e1 e2 e3 => ?_⟩, fun y c e => ?_, ?_, fun y c e => ?_, fun p hp => ?_, I.hok.kept kp, by rw [wipe_length]; exact I.len⟩
  · show Heap.Ns _ cenv.locals _
    rw [hL]
    exact Heap.Ns.keeps (Heap.Ns.new ..) fun b o e => pushCells_keeps _ _ _ _ e
  · obtain ⟨e2, hne⟩ := wipe_some e2
    have hfr : scope.names.lookup y = some .free ∧ (cenv.kindOf y = some .cell ∨ cenv.kindOf y = some .free) := by
      have key : ∀ k, cenv.scope.names.lookup y = some k → k = .local ∨ k = .cell ∨ k = .free → scope.names.lookup y = some .free ∧ (cenv.kindOf y = some .cell ∨ cenv.kindOf y = some .free) := fun k hk hk' => by
        have hk0 := hk
        rw [hsc] at hk
        obtain ⟨k', e, r⟩ := lookup_relS hk
        have no : ¬ (k' = .local ∨ k' = .cell) := fun hh => by
          rcases ok.own _ (PySem.mem_of_lookup e) hh with e' | e'
          · obtain ⟨p, hp, hpy⟩ := List.mem_map.mp e'
            have e3 := ok.ix p hp
            have : p.1 = y := hpy
            rw [this] at e3
            exact hne (List.mem_map.mpr ⟨p, hp, nodup_ix hN e3 e1⟩)
          · exact e' (List.mem_of_getElem? e1)
        rcases r with rfl | ⟨rfl, rfl⟩
        · rcases hk' with rfl | rfl | rfl
          · exact absurd (.inl rfl) no
          · exact absurd (.inr rfl) no
          · exact ⟨e, .inr hk0⟩
        · exact ⟨e, .inl hk0⟩
      have e3 : Vis cenv.scope y := e3
      rcases e3 with e3 | e3 | e3
      · exact key _ e3 (.inl rfl)
      · exact key _ e3 (.inr (.inl rfl))
      · exact key _ e3 (.inr (.inr rfl))
    obtain ⟨m, hn, hl⟩ := I.loc
    have hvis : Vis X.env.scope y := (ok.free _ (PySem.mem_of_lookup hfr.1) rfl).elim (fun k => .inr (.inl k)) (fun k => .inr (.inr k))
    obtain ⟨w, r, q⟩ := hl i y av e1 e2 hvis
    refine ⟨w, r, .inr ⟨hfr.2, ?_⟩⟩
    obtain ⟨c, h1, h2⟩ := look hfr.1
    rcases q with ⟨k, _⟩ | ⟨_, c', e', z⟩
    · have k : X.env.scope.names.lookup y = some .local := k
      rcases ok.free _ (PySem.mem_of_lookup hfr.1) rfl with k' | k' <;> rw [show X.env.scope.names.lookup y = _ from k'] at k <;> cases k
    · rw [h2] at e'; cases e'
      exact ⟨c, h1, z.keeps kp⟩
  · have e : cenv.cells.lookup y = some c := e
    rcases mem e with ⟨h1, _⟩ | ⟨_, z⟩
    · obtain ⟨w, z⟩ := I.cell y c h1
      exact ⟨w, z.keeps kp⟩
    · exact ⟨_, z⟩
  · show H cenv.locals = none
    rw [hL]; exact I.hok.fresh (Nat.le_refl _)
  · have e : cenv.cells.lookup y = some c := e
    rcases mem e with ⟨h1, _⟩ | ⟨h1, _⟩
    · exact I.freeC y c h1
    · exact I.hok.fresh (Nat.le_of_succ_le h1)
  · exact absurd (show p ∈ ([] : List (Addr × Obj)) ++ [] from hp) (by simp)

/-- an item appended to a tracked list -/
theorem app_ok {E : Value → Shared → Prop} {D : Addr} {xs : List V} {y : V} {v : Value} {Q : Value → Shared → Prop} (I : Inv X pins σ H s) (hD : H D = some (.lst xs)) (hz : xs.length < sizeLine) (r : RelV y v)
    (h : ∀ s', Inv X pins σ (upd H D (.lst (xs ++ [y]))) s' → Q .none s') : wpAny (model X.prog X.w) X.A (call (.builtin "list.append") [.ref D, v]) Q E s := by
  obtain ⟨hz', its, n, ri, e⟩ := I.hok D _ hD
  have hl := ri.length
  refine append_at (hsz := by rw [List.size_toArray]; omega) e fun h' sb ho' => ?_
  refine h { s with heap := h' } (I.write (t' := s.toks) (by rw [hD]; trivial) (.inl rfl) (fun b u hb q => (sb.2 b hb).trans q) ⟨_, ho'⟩ ⟨by rw [List.length_append]; exact hz, its ++ [v], n + 1, ri.append (.cons r .nil), ?_⟩)
  rw [ho']
  simp

/-- a clause's tests -/
def PTs (X : Cx) (ifs : List Expr) (t : TT) : Prop :=
  ∀ (pins : List (Addr × Obj)) (s : Shared) (σ : St) (H : Hp) (Q : Bool → Hp → Prop), Inv X pins σ H s → t σ H Q →
    wpAny (model X.prog X.w) X.A (forIn ifs true fun c r => if r = true then do let ok ← isTrue c X.env (eval c X.env); pure (ForInStep.yield ok) else pure (ForInStep.yield r)) (TP X pins σ Q) X.xe s
def tYes : TT := fun _ H Q => Q true H
theorem pts_nil : PTs X [] tYes := fun _ _ _ H _ I h => wpAny_tests_nil ⟨H, I, h⟩
end

theorem thnF {α : Type} {t : Sem α} {Q Q' : α → Shared → Prop} {M : Model} {A : Around} {E : Value → Shared → Prop} {s : Shared} (h : wpAny M A t Q (fun _ _ => False) s) (hQ : ∀ a s, Q a s → Q' a s) : wpAny M A t Q' E s := wpAny_mono h hQ fun _ _ z => False.elim z

/-- the loop of a list comprehension's block, the target of any form (codeAny_compLoop_tests asks a target that no tuple goes to; statement and proof follow it, PyProof/CompMap.lean:41-61, with the step letOwnedTupleGo kept) -/
theorem compLoop_any {prog : Program} {w : World} {A : Around} {R : Result → Shared → Prop} {s : Shared} {elt target iter : Expr} {ifs : List Expr} {scope : Scope} {pos : Pos} {it acc : Value} {env : Env} (I : Nat → Shared → Prop)
    (turn : ∀ n s, I n s → wpAny (model prog w) A (pyNext it) (fun r s₁ => match r with
      | none => R (.ok .next) s₁
      | some v => wpAny (model prog w) A (letOwnedTupleGo target it v) (fun _ s₁' => wpAny (model prog w) A (assign target env v) (fun _ s₂ =>
          wpAny (model prog w) A (forIn ifs true fun c r => if r = true then do let ok ← isTrue c env (eval c env); pure (ForInStep.yield ok) else pure (ForInStep.yield r)) (fun ok s₃ =>
            if ok = true then wpAny (model prog w) A (eval elt env) (fun x s₄ =>
              wpAny (model prog w) A (call (.builtin "list.append") [acc, x]) (fun _ s₅ => ∃ m, m < n ∧ I m s₅) (notedBy (model prog w) A env fun e s' => R (.error e) s') s₄) (notedBy (model prog w) A env fun e s' => R (.error e) s') s₃
            else ∃ m, m < n ∧ I m s₃) (notedBy (model prog w) A env fun e s' => R (.error e) s') s₂) (notedBy (model prog w) A env fun e s' => R (.error e) s') s₁') (notedBy (model prog w) A env fun e s' => R (.error e) s') s₁) (notedBy (model prog w) A env fun e s' => R (.error e) s') s)
    (n : Nat) (h : I n s) :
    codeAny (model prog w) A (.compLoop (.ListComp elt [⟨target, iter, ifs, 0⟩] scope pos) 0 it acc env) R s := by
  refine codeAny_loop rfl I (fun n s hI => ?_) n h
  show wpAny _ A ((compTurn (.ListComp elt [⟨target, iter, ifs, 0⟩] scope pos) 0 it acc env).onRaise (fun x => do noteFrame x env; theTreesLotGoes x)) _ _ s
  refine wpAny_noted ?_
  rw [compTurn_list]
  refine wpAny_bind (wpAny_standAt (wpAny_bind (wpAny_mono (turn n s hI) (fun r s₁ h₁ => ?_) fun _ _ h' => h')))
  cases r with
  | none => exact wpAny_pure h₁
  | some v =>
    refine wpAny_bind (wpAny_mono h₁ (fun _ s₁' h₁' => ?_) fun _ _ h' => h')
    refine wpAny_bind (wpAny_mono h₁' (fun _ s₂ h₂ => wpAny_bind (wpAny_mono h₂ (fun ok s₃ h₃ => ?_) fun _ _ h' => h')) fun _ _ h' => h')
    cases ok with
    | false => exact wpAny_pure ⟨rfl, h₃⟩
    | true =>
      exact wpAny_bind (wpAny_bind (wpAny_mono h₃ (fun x s₄ h₄ => wpAny_bind (wpAny_mono h₄ (fun _ s₅ h₅ => wpAny_pure (wpAny_pure ⟨rfl, h₅⟩)) fun _ _ h' => h')) fun _ _ h' => h'))

section
variable {X : Cx}
/-- [elt for target in iter if ..]: D the new list; W by the turn and a measure, Nx what a turn is to reach -/
def tLc (wi : TI) (g : TG) (tt : TT) (te : TE) (vs : List Nat) : TE := fun σ H Q => wi σ H fun J H1 => ∀ D, H1 D = none → ∃ W : Nat → Nat → Hp → Prop, (∃ m, W 0 m (upd H1 D (.lst []))) ∧ ∀ i m H, W i m H →
  (J.stop i H ∧ Q (.ref D) H) ∨ (J.go i H ∧ ∃ Nx : Hp → Prop, (∀ H', Nx H' → ∃ m', m' < m ∧ W (i + 1) m' H') ∧ ∀ x H', J.yld i H x H' → g x (wipe σ vs) H' fun σ2 H2 => wipe σ2 vs = wipe σ vs ∧ tt σ2 H2 fun b H3 =>
    if b = true then te σ2 H3 fun y H4 => ∃ acc, H4 D = some (.lst acc) ∧ acc.length < sizeLine ∧ Nx (upd H4 D (.lst (acc ++ [y]))) else Nx H3)
theorem lc_core {pins : List (Addr × Obj)} {s : Shared} {σ : St} {H : Hp} {Q : VK} {elt tg iter : Expr} {ifs : List Expr} {scope : Scope} {own : List (Str × Nat)} {pos pos' : Pos} {wi : TI} {g : TG} {tt : TT} {te : TE} {use : Option (Value → Sem Unit)} {Qf : Value → Shared → Prop}
    (hc : X.calm = true) (hN : X.N.Nodup) (I : Inv X pins σ H s) (hi : PI X tg iter wi) (ok : BlkOk X.N X.env.scope scope own)
    (hg : ∀ (s : Shared) (H : Hp) (C : Addr) (cl : List (Str × Addr)) (fp : List Addr), PG (X.blk s H scope (compEnvC scope cl C X.env) fp) tg g) (ht : ∀ (s : Shared) (H : Hp) (C : Addr) (cl : List (Str × Addr)) (fp : List Addr), PTs (X.blk s H scope (compEnvC scope cl C X.env) fp) ifs tt)
    (he : ∀ (s : Shared) (H : Hp) (C : Addr) (cl : List (Str × Addr)) (fp : List Addr), PE (X.blk s H scope (compEnvC scope cl C X.env) fp) elt te) (hs : ∀ x, foldedSetIterable iter X.env x = pure x)
    (h : tLc wi g tt te (own.map (·.2)) σ H Q)
    (hRR : ∀ D C s' m H', Inv X pins σ H' s' → Q (.ref D) H' → s'.heap.Ns C m → FpOk X pins H' C → compPost (model X.prog X.w) X.A X.xe use Qf (.ref D) C (.ok .next) s') :
    wpAny (model X.prog X.w) X.A (comprehension (.ListComp elt [⟨tg, iter, ifs, 0⟩] scope pos) scope X.env pos' (newList []) false (eval iter X.env) use) Qf X.xe s := by
  have hfree : ∀ y ∈ scope.names, y.2 = .free → ∃ c, X.env.cells.lookup y.1 = some c := fun y hy e => by
    rcases ok.free y hy e with k | k
    · exact I.ok.has _ (.inl k)
    · exact I.ok.has _ (.inr k)
  refine wpAny_comprehension_free (use := use) rfl hs (closure_ok hfree) ok.kind (fun y hy e => by rw [ok.uniq y hy, e])
    (thn (hi pins s σ H _ I h) fun xv s1 hx => thn hx fun itv s2 h2 => ?_)
  obtain ⟨it, fp, tn, J, H2, e, I2, T, st2, f2, q⟩ := h2
  subst e
  refine wpAny_newObj_type (newEnv_comp ?_) (by show 0 ≤ sizeLine; decide)
  generalize hD : s2.heap.objs.size = D
  have hDn : H2 D = none := I2.hok.fresh (Nat.le_of_eq hD)
  obtain ⟨W, ⟨m0, w0⟩, turn⟩ := q D hDn
  -- the new list
  generalize hs3 : ({ s2 with heap := s2.heap.push { cls := .type "list", data := .seq ([] : List Value).toArray } } : Shared) = s3
  have I3 : Inv X pins σ (upd H2 D (.lst [])) s3 := by
    rw [← hs3]
    refine I2.laid (t' := s2.toks) (fun b o e => Heap.get?_push_of_some _ e) (Nat.le_of_eq hD) ⟨Nat.zero_le _, [], 0, .nil, ?_⟩
    rw [← hD]
    exact Heap.get?_push_size _ rfl
  have h3 : s3.heap = s2.heap.push { cls := .type "list", data := .seq ([] : List Value).toArray } := by rw [← hs3]
  have sz : ∀ b ∈ fp, b < s2.heap.objs.size := fun b hb => by
    obtain ⟨o, e, _⟩ := T.obj _ _ st2 b hb
    exact Heap.lt_size e
  have f3 : ∀ b ∈ fp, FpOk X pins (upd H2 D (.lst [])) b ∧ b < s3.heap.objs.size := fun b hb => by
    have hlt := sz b hb
    refine ⟨⟨?_, (f2 b hb).2⟩, by rw [h3, Heap.size_push]; exact Nat.lt_succ_of_lt hlt⟩
    rw [upd_ne (by rw [← hD]; exact Nat.ne_of_lt hlt)]
    exact (f2 b hb).1
  have st3 : tn 0 s3.heap := T.keep _ _ _ st2 fun b _ o e => by rw [h3]; exact Heap.get?_push_of_some _ e
  have I4 := block_start I3 ok hN f3
  have pg := hg s3 (upd H2 D (.lst [])) s3.heap.objs.size (cellsFrom (s3.heap.objs.size + 1) scope.names (cloFrom X.env.cells scope.names [])) fp
  have pt := ht s3 (upd H2 D (.lst [])) s3.heap.objs.size (cellsFrom (s3.heap.objs.size + 1) scope.names (cloFrom X.env.cells scope.names [])) fp
  have pe := he s3 (upd H2 D (.lst [])) s3.heap.objs.size (cellsFrom (s3.heap.objs.size + 1) scope.names (cloFrom X.env.cells scope.names [])) fp
  show codeAny _ _ (.compStart (.ListComp elt [⟨tg, iter, ifs, 0⟩] scope pos) 0 (.ref it) (.ref D) (compEnvC scope (cellsFrom (s3.heap.objs.size + 1) scope.names (cloFrom X.env.cells scope.names [])) s3.heap.objs.size X.env)) (compPost (model X.prog X.w) X.A X.xe use Qf (.ref D) s3.heap.objs.size) { s3 with heap := pushCells (s3.heap.push { cls := .type "dict", data := .dict #[] }) scope.names }
  have nfp : ∀ b ∈ fp, (upd H2 D (.lst [])) b = none := fun b hb => (f3 b hb).1.1
  generalize hce : compEnvC scope (cellsFrom (s3.heap.objs.size + 1) scope.names (cloFrom X.env.cells scope.names [])) s3.heap.objs.size X.env = ce at I4 pg pt pe ⊢
  have cL : ce.locals = s3.heap.objs.size := by subst hce; rfl
  generalize hH3 : upd H2 D (.lst []) = H3 at I3 I4 pg pt pe w0 nfp f3
  generalize hs4 : ({ s3 with heap := pushCells (s3.heap.push { cls := .type "dict", data := .dict #[] }) scope.names } : Shared) = s4 at I4 ⊢
  have st4 : tn 0 s4.heap := T.keep _ _ _ st3 fun b _ o e => by rw [← hs4]; exact pushCells_keeps _ _ _ _ (Heap.get?_push_of_some _ e)
  have stat : ∀ {σ' : St} {H' : Hp} {s' : Shared}, Inv (X.blk s3 H3 scope ce fp) [] σ' H' s' → (∀ b ∈ fp, H' b = none) → ∀ b ∈ fp, FpOk (X.blk s3 H3 scope ce fp) [] H' b := fun {σ' H' s'} I' hn b hb =>
    ⟨hn b hb, (I'.ok.exf b hb).1, I'.ok.exfs b hb, .inl hb, fun x c e => (I'.ok.exf b hb).2 x c e, fun p hp => absurd (show p ∈ ([] : List (Addr × Obj)) ++ [] from hp) (by simp)⟩
  have loop : codeAny (model X.prog X.w) X.A (.compLoop (.ListComp elt [⟨tg, iter, ifs, 0⟩] scope pos) 0 (.ref it) (.ref D) ce) (compPost (model X.prog X.w) X.A X.xe use Qf (.ref D) s3.heap.objs.size) s4 := by
    refine compLoop_any (fun n s' => ∃ i H', Inv (X.blk s3 H3 scope ce fp) [] (wipe σ (own.map (·.2))) H' s' ∧ tn i s'.heap ∧ (∀ b ∈ fp, H' b = none) ∧ W i n H') ?_ m0 ⟨0, H3, I4, st4, nfp, w0⟩
    rintro n s5 ⟨i, H5, I5, st5, n5, w5⟩
    rcases turn i n H5 w5 with ⟨stop, qq⟩ | ⟨go, Nx, hNx, step⟩
    · have td := T.done (X.blk s3 H3 scope ce fp) rfl rfl rfl hc i [] s5 _ H5 (fun _ _ => False) I5 (stat I5 n5) st5 stop
      refine thnF td fun r s6 ⟨hr, I6⟩ => ?_
      subst hr
      -- back in the def's context
      have I7 : Inv X pins σ H5 s6 := I3.call' (ch := fp) I6.os I6.base I6.hok I6.bare fun b hb => ⟨(f3 b hb).1.2.2.2.1, (f3 b hb).1.2.1, (f3 b hb).1.2.2.2.2.1, (f3 b hb).1.2.2.2.2.2⟩
      have nC : H5 s3.heap.objs.size = none := by
        have z : H5 ce.locals = none := I6.free
        rw [cL] at z
        exact z
      obtain ⟨m, hn, _⟩ := I6.loc
      have hn : s6.heap.Ns ce.locals m := hn
      rw [cL] at hn
      exact hRR D s3.heap.objs.size s6 m H5 I7 qq hn (I3.fpOk (Nat.le_refl _) nC)
    · have ti := T.item (X.blk s3 H3 scope ce fp) rfl rfl rfl hc i [] s5 _ H5 (fun _ _ => False) I5 (stat I5 n5) st5 go
      refine thnF ti fun r s6 ⟨u, hr, h6⟩ => ?_
      subst hr
      refine thnF h6 fun _ s7 ⟨x, H7, I7, r7, y7, st7, n7⟩ => ?_
      have I7' := I7.pinned (stat I7 n7) (T.obj _ _ st7)
      refine thnF (pg _ s7 _ H7 x u _ I7' r7 (step x H7 y7)) fun _ s8 ⟨σ8, H8, I8, hw8, q8⟩ => ?_
      refine thnF (pt _ s8 σ8 H8 _ I8 q8) fun b s9 ⟨H9, I9, q9⟩ => ?_
      -- the turn's end
      have fin : ∀ {s' : Shared} {H' : Hp}, Inv (X.blk s3 H3 scope ce fp) ([] ++ pinsAt fp s7.heap) σ8 H' s' → Nx H' → ∃ m, m < n ∧ ∃ i H', Inv (X.blk s3 H3 scope ce fp) [] (wipe σ (own.map (·.2))) H' s' ∧ tn i s'.heap ∧ (∀ b ∈ fp, H' b = none) ∧ W i m H' := fun {s' H'} I' nx => by
        obtain ⟨m', hm, w'⟩ := hNx H' nx
        have pin' : ∀ b ∈ fp, ∀ o, s7.heap.get? b = some o → s'.heap.get? b = some o ∧ H' b = none := fun b hb o e =>
          let z := I'.pin (b, o) (List.mem_append_right _ (List.mem_append_right _ (mem_pinsAt hb e)))
          ⟨z.1, z.2.1⟩
        have hl : (wipe σ (own.map (·.2))).length = σ8.length := by rw [← hw8, wipe_length]
        refine ⟨m', hm, i + 1, H', (I'.unpinned (pins := [])).weak hl (fun j v e => ?_), T.keep _ _ _ st7 fun b hb o e => (pin' b hb o e).1, fun b hb => ?_, w'⟩
        · rw [← hw8] at e
          exact (wipe_some e).1
        · obtain ⟨o, e, _⟩ := T.obj _ _ st7 b hb
          exact (pin' b hb o e).2
      cases b with
      | false =>
        simp only [Bool.false_eq_true, if_false] at q9 ⊢
        exact fin I9 q9
      | true =>
        simp only [if_true] at q9 ⊢
        refine thnF (pe _ s9 σ8 H9 _ I9 q9) fun z s10 ⟨yv, H10, I10, r10, acc, hD10, hz10, nx⟩ => ?_
        exact app_ok (X := X.blk s3 H3 scope ce fp) I10 hD10 hz10 r10 fun s11 I11 => fin I11 nx
  exact codeAny_compStart_list loop (T.self X.A 0 _ _ _ st4 loop)
/-- as a value -/
theorem pe_lc {elt tg iter : Expr} {ifs : List Expr} {scope : Scope} {own : List (Str × Nat)} {pos : Pos} {wi : TI} {g : TG} {tt : TT} {te : TE} (hc : X.calm = true) (hN : X.N.Nodup) (hi : PI X tg iter wi) (ok : BlkOk X.N X.env.scope scope own)
    (hg : ∀ (s : Shared) (H : Hp) (C : Addr) (cl : List (Str × Addr)) (fp : List Addr), PG (X.blk s H scope (compEnvC scope cl C X.env) fp) tg g) (ht : ∀ (s : Shared) (H : Hp) (C : Addr) (cl : List (Str × Addr)) (fp : List Addr), PTs (X.blk s H scope (compEnvC scope cl C X.env) fp) ifs tt)
    (he : ∀ (s : Shared) (H : Hp) (C : Addr) (cl : List (Str × Addr)) (fp : List Addr), PE (X.blk s H scope (compEnvC scope cl C X.env) fp) elt te) (hs : ∀ x, foldedSetIterable iter X.env x = pure x := by intro _; rfl) :
    PE X (.ListComp elt [⟨tg, iter, ifs, 0⟩] scope pos) (tLc wi g tt te (own.map (·.2))) := by
  intro pins s σ H Q I h
  rw [eval_ListComp]
  refine lc_core hc hN I hi ok hg ht he hs h fun D C s' m H' I' q hn f => ⟨m, hn, fun h'' sb => ?_⟩
  obtain ⟨f0, f1, f2, f3, f4, f5⟩ := f
  exact ⟨.ref D, H', I'.turned (t' := s'.toks) (fun b o hb e => (sb.2 b hb).trans e) f0 f1 f3 f4 f5, rfl, q⟩
/-- name = [..] on one line, the name a local -/
theorem ps_setLc {i : Nat} {y : Str} {py : Pos} {elt tg iter : Expr} {ifs : List Expr} {scope : Scope} {own : List (Str × Nat)} {pos spos : Pos} {wi : TI} {g : TG} {tt : TT} {te : TE} (hc : X.calm = true) (hN : X.N.Nodup) (hy : X.N[i]? = some y) (hyl : X.env.scope.names.lookup y = some .local)
    (hsw : swapsWith (.ListComp elt [⟨tg, iter, ifs, 0⟩] scope pos) (some (.Name y py)) spos.line X.env = pure true) (hi : PI X tg iter wi) (ok : BlkOk X.N X.env.scope scope own)
    (hg : ∀ (s : Shared) (H : Hp) (C : Addr) (cl : List (Str × Addr)) (fp : List Addr), PG (X.blk s H scope (compEnvC scope cl C X.env) fp) tg g) (ht : ∀ (s : Shared) (H : Hp) (C : Addr) (cl : List (Str × Addr)) (fp : List Addr), PTs (X.blk s H scope (compEnvC scope cl C X.env) fp) ifs tt)
    (he : ∀ (s : Shared) (H : Hp) (C : Addr) (cl : List (Str × Addr)) (fp : List Addr), PE (X.blk s H scope (compEnvC scope cl C X.env) fp) elt te) (hs : ∀ x, foldedSetIterable iter X.env x = pure x := by intro _; rfl) :
    PS X (.Assign [.Name y py] (.ListComp elt [⟨tg, iter, ifs, 0⟩] scope pos) spos) (tAsg (tLc wi g tt te (own.map (·.2))) (gName i)) := by
  intro pins s σ H D I h
  rw [exec_Assign_Name_used _ _ _ _ hsw]
  refine wpAny_bind (wpAny_standAt (wpAny_bind ?_))
  show wpAny _ X.A (do let _ ← comprehension (.ListComp elt [⟨tg, iter, ifs, 0⟩] scope pos) scope X.env (firstIterPos [⟨tg, iter, ifs, 0⟩] pos) (newList []) false (eval iter X.env) (some (assign (.Name y py) X.env))) _ _ s
  have h : tLc wi g tt te (own.map (·.2)) σ H (fun x H1 => gName i x σ H1 D.nx) := h
  refine wpAny_bind (thn (lc_core (Qf := fun _ s' => SP X pins D .next s') hc hN I hi ok hg ht he hs h fun L C s' m H' I' q hn f => ?_) fun _ s' hq => wpAny_pure (wpAny_pure hq))
  show wpAny _ _ (assign (.Name y py) X.env (.ref L)) _ _ _
  refine wpAny_assign_Name (store_ok2 (v := V.ref L) I' hN hy (.inl hyl) rfl (fun s2 I2 ⟨a, sb, ha⟩ => ?_) (.inr hyl))
  obtain ⟨f0, f1, f2, f3, f4, f5⟩ := f
  have haC : C ≠ a := by
    rcases ha with z | z
    · rw [z]; exact f1
    · exact fun e => f4 y a z e.symm
  refine ⟨m, hn.sameBut sb haC, fun h3 sb3 => ?_⟩
  exact ⟨_, H', I2.turned (t' := s2.toks) (fun b o hb e => (sb3.2 b hb).trans e) f0 f1 f3 f4 f5, q⟩
theorem sw_true {elt : Expr} {gs : List Comprehension} {scope : Scope} {pos py : Pos} {y : Str} {l : Nat} {env : Env} (hk : env.scope.kind = .function) (hy : env.scope.names.lookup y = some .local) (hl : (py.line == pos.line) = true)
    (ha : (scope.names.any fun (n, k) => n == y && (k == .local || k == .cell)) = false) : swapsWith (.ListComp elt gs scope pos) (some (.Name y py)) l env = pure true := by
  have ky : env.kindOf y = some .local := hy
  have hb : env.blockKind = .function := by unfold Env.blockKind; rw [hk]; rfl
  unfold swapsWith
  simp only [hb, ky, ha, Expr.pos, hl]
  rfl
end

/-- over a range: Pv by the turn and the heap (the new list at D within) -/
theorem lc_range {lo : Int} {n : Nat} {g : TG} {tt : TT} {te : TE} {vs : List Nat} {σ : St} {H1 : Hp} {D : Addr} {Qd : Hp → Prop} (Pv : Nat → Hp → Prop) (h0 : Pv 0 (upd H1 D (.lst [])))
    (hs : ∀ i H, i < n → Pv i H → g (.int (lo + i)) (wipe σ vs) H fun σ2 H2 => wipe σ2 vs = wipe σ vs ∧ tt σ2 H2 fun b H3 =>
      if b = true then te σ2 H3 fun y H4 => ∃ acc, H4 D = some (.lst acc) ∧ acc.length < sizeLine ∧ Pv (i + 1) (upd H4 D (.lst (acc ++ [y]))) else Pv (i + 1) H3) (hd : ∀ H, Pv n H → Qd H) :
    ∃ W : Nat → Nat → Hp → Prop, (∃ m, W 0 m (upd H1 D (.lst []))) ∧ ∀ i m H, W i m H →
      ((Itr lo n).stop i H ∧ Qd H) ∨ ((Itr lo n).go i H ∧ ∃ Nx : Hp → Prop, (∀ H', Nx H' → ∃ m', m' < m ∧ W (i + 1) m' H') ∧ ∀ x H', (Itr lo n).yld i H x H' → g x (wipe σ vs) H' fun σ2 H2 => wipe σ2 vs = wipe σ vs ∧ tt σ2 H2 fun b H3 =>
        if b = true then te σ2 H3 fun y H4 => ∃ acc, H4 D = some (.lst acc) ∧ acc.length < sizeLine ∧ Nx (upd H4 D (.lst (acc ++ [y]))) else Nx H3) := by
  refine ⟨fun i m H => m = n - i ∧ i ≤ n ∧ Pv i H, ⟨n, by simp, Nat.zero_le _, h0⟩, ?_⟩
  rintro i m H ⟨rfl, hi, p⟩
  by_cases hlt : i < n
  · refine .inr ⟨hlt, Pv (i + 1), fun H' p' => ⟨n - (i + 1), by omega, rfl, hlt, p'⟩, fun x H' y => ?_⟩
    obtain ⟨e, y⟩ := y
    subst e y
    exact hs i _ hlt p
  · have e : i = n := by omega
    subst e
    exact .inl ⟨Nat.le_refl _, hd H p⟩
/-- over a list that the block leaves as it is -/
theorem lc_list {K : PySem.W.Frag} {a : Addr} {xs : List V} {g : TG} {tt : TT} {te : TE} {vs : List Nat} {σ : St} {H1 : Hp} {D : Addr} {Qd : Hp → Prop} (Pv : Nat → Hp → Prop) (h0 : Pv 0 (upd H1 D (.lst []))) (hl : ∀ i H, i ≤ xs.length → Pv i H → SqL K H a xs)
    (hs : ∀ i x H, xs[i]? = some x → Pv i H → g x (wipe σ vs) H fun σ2 H2 => wipe σ2 vs = wipe σ vs ∧ tt σ2 H2 fun b H3 =>
      if b = true then te σ2 H3 fun y H4 => ∃ acc, H4 D = some (.lst acc) ∧ acc.length < sizeLine ∧ Pv (i + 1) (upd H4 D (.lst (acc ++ [y]))) else Pv (i + 1) H3) (hd : ∀ H, Pv xs.length H → Qd H) :
    ∃ W : Nat → Nat → Hp → Prop, (∃ m, W 0 m (upd H1 D (.lst []))) ∧ ∀ i m H, W i m H →
      ((Itl K a).stop i H ∧ Qd H) ∨ ((Itl K a).go i H ∧ ∃ Nx : Hp → Prop, (∀ H', Nx H' → ∃ m', m' < m ∧ W (i + 1) m' H') ∧ ∀ x H', (Itl K a).yld i H x H' → g x (wipe σ vs) H' fun σ2 H2 => wipe σ2 vs = wipe σ vs ∧ tt σ2 H2 fun b H3 =>
        if b = true then te σ2 H3 fun y H4 => ∃ acc, H4 D = some (.lst acc) ∧ acc.length < sizeLine ∧ Nx (upd H4 D (.lst (acc ++ [y]))) else Nx H3) := by
  refine ⟨fun i m H => m = xs.length - i ∧ i ≤ xs.length ∧ Pv i H, ⟨xs.length, by simp, Nat.zero_le _, h0⟩, ?_⟩
  rintro i m H ⟨rfl, hi, p⟩
  have q := hl i H hi p
  by_cases hlt : i < xs.length
  · refine .inr ⟨⟨xs, xs[i], q, by simp [hlt]⟩, Pv (i + 1), fun H' p' => ⟨xs.length - (i + 1), by omega, rfl, hlt, p'⟩, fun x H' y => ?_⟩
    obtain ⟨e, y⟩ := y
    subst e
    exact hs i x _ (y xs q) p
  · have e : i = xs.length := by omega
    subst e
    exact .inl ⟨⟨xs, q, Nat.le_refl _⟩, hd H p⟩
def blkC (N : List Str) (sc scope : Scope) (own : List (Str × Nat)) : Bool :=
  (match scope.kind with | .function => true | _ => false) && (scope.names.all fun y => decide (scope.names.lookup y.1 = some y.2)) && (own.all fun p => decide (N[p.2]? = some p.1)) &&
    (scope.names.all fun y => match y.2 with
      | .free => (match sc.names.lookup y.1 with | some .cell => true | some .free => true | _ => false)
      | .local => decide (y.1 ∈ own.map (·.1)) || decide (y.1 ∉ N)
      | .cell => decide (y.1 ∈ own.map (·.1)) || decide (y.1 ∉ N)
      | _ => true)
theorem blkOk_by {N : List Str} {sc scope : Scope} {own : List (Str × Nat)} (h : blkC N sc scope own = true) : BlkOk N sc scope own := by
  unfold blkC at h
  simp only [Bool.and_eq_true, List.all_eq_true, decide_eq_true_eq] at h
  obtain ⟨⟨⟨h1, h2⟩, h3⟩, h4⟩ := h
  refine ⟨?_, h2, h3, fun y hy e => ?_, fun y hy e => ?_⟩
  · split at h1
    · assumption
    · cases h1
  · have q := h4 y hy
    simp only [e] at q
    split at q <;> first | exact .inl (by assumption) | exact .inr (by assumption) | cases q
  · have q := h4 y hy
    rcases e with e | e <;> (simp only [e, Bool.or_eq_true, decide_eq_true_eq] at q; exact q)
end L2

namespace L2
open PySem PySem.Spec PyProof.Rows

section
variable {prog : Program} {w : World} {A : Around} {R : Result → Shared → Prop} {s : Shared} {elt t0 i0 t1 i1 : Expr} {ifs0 ifs1 : List Expr} {scope : Scope} {pos : Pos} {it acc : Value} {env : Env}
end

section
variable {X : Cx}
end
end L2

namespace L2
open PySem PySem.Spec PyProof.Rows

section
variable {κ : Type} [DecidableEq κ]
def valV (kvs : List (κ × V)) (k : κ) : Option V := (kvs.find? fun kv => decide (kv.1 = k)).map (·.2)
/-- in its place, or at the end -/
def putK (kvs : List (κ × V)) (k : κ) (v : V) : List (κ × V) :=
  if (kvs.any fun kv => decide (kv.1 = k)) = true then kvs.map (fun kv => if kv.1 = k then (kv.1, v) else kv) else kvs ++ [(k, v)]
def dropK (kvs : List (κ × V)) (k : κ) : List (κ × V) := kvs.filter fun kv => decide (kv.1 ≠ k)

theorem valV_pos {p : κ × V} {r : List (κ × V)} {k : κ} (e : p.1 = k) : valV (p :: r) k = some p.2 := by simp [valV, List.find?_cons, e]
theorem valV_neg {p : κ × V} {r : List (κ × V)} {k : κ} (e : ¬ p.1 = k) : valV (p :: r) k = valV r k := by simp [valV, List.find?_cons, e]
theorem RelO.getD {o : Option V} {u : Option Value} {d : V} {d' : Value} (r : RelO o u) (rd : RelV d d') : RelV (o.getD d) (u.getD d') := by
  cases o with
  | none => cases u with
    | none => exact rd
    | some _ => exact (show False from r).elim
  | some _ => cases u with
    | none => exact (show False from r).elim
    | some _ => exact r

/-- raw tables of the same keys -/
theorem KV.val {kvs : List (κ × V)} {vs : List (κ × Value)} (r : KV kvs vs) (k : κ) : RelO (valV kvs k) (valueAt vs k) := by
  unfold KV at r
  induction r with
  | nil => exact True.intro
  | @cons p q ps qs h t ih =>
    obtain ⟨h1, h2⟩ := h
    by_cases e : p.1 = k
    · have e' : q.1 = k := h1.symm.trans e
      have b : valueAt (q :: qs) k = some q.2 := by simp [valueAt, List.find?_cons, e']
      rw [valV_pos e, b]; exact h2
    · have e' : ¬ q.1 = k := fun z => e (h1.trans z)
      have b : valueAt (q :: qs) k = valueAt qs k := by simp [valueAt, List.find?_cons, e']
      rw [valV_neg e, b]; exact ih
theorem KV.any {kvs : List (κ × V)} {vs : List (κ × Value)} (r : KV kvs vs) (k : κ) : (kvs.any fun kv => decide (kv.1 = k)) = vs.any fun kv => decide (kv.1 = k) := by
  unfold KV at r
  induction r with
  | nil => rfl
  | cons h t ih => rw [List.any_cons, List.any_cons, ih, h.1]
theorem KV.drop {kvs : List (κ × V)} {vs : List (κ × Value)} (r : KV kvs vs) (k : κ) : KV (dropK kvs k) (without vs k) := by
  unfold KV at r ⊢
  unfold dropK without
  induction r with
  | nil => exact .nil
  | @cons p q ps qs h t ih =>
    obtain ⟨h1, h2⟩ := h
    rw [List.filter_cons, List.filter_cons]
    by_cases e : p.1 = k
    · have a : ¬ decide (p.1 ≠ k) = true := by simp [e]
      have b : ¬ decide (q.1 ≠ k) = true := by simp [h1.symm.trans e]
      rw [if_neg a, if_neg b]; exact ih
    · have e' : ¬ q.1 = k := fun z => e (h1.trans z)
      have a : decide (p.1 ≠ k) = true := by simp [e]
      have b : decide (q.1 ≠ k) = true := by simp [e']
      rw [if_pos a, if_pos b]; exact .cons ⟨h1, h2⟩ ih
theorem KV.keys {kvs : List (κ × V)} {vs : List (κ × Value)} (r : KV kvs vs) : kvs.map (·.1) = vs.map (·.1) := by
  unfold KV at r
  induction r with
  | nil => rfl
  | cons h t ih => rw [List.map_cons, List.map_cons, ih, h.1]
theorem KV.length {kvs : List (κ × V)} {vs : List (κ × Value)} (r : KV kvs vs) : kvs.length = vs.length := Paired.length r
end


/-- raw entries of a dict with tuple keys -/
abbrev KT (H : Hp) : List (List Key × V) → List (List Key × Addr × Value) → Prop := Paired fun p q => p.1 = q.1 ∧ H q.2.1 = some (.tup (p.1.map kV)) ∧ RelV p.2 q.2.2
theorem KT.val {H : Hp} {kvs : List (List Key × V)} {xs : List (List Key × Addr × Value)} (r : KT H kvs xs) (k : List Key) : RelO (valV kvs k) ((atKey xs k).map (·.2)) := by
  induction r with
  | nil => exact True.intro
  | @cons p q ps qs h t ih =>
    obtain ⟨h1, _, h2⟩ := h
    by_cases e : p.1 = k
    · have e' : q.1 = k := h1.symm.trans e
      have b : atKey (q :: qs) k = some q.2 := by simp [atKey, List.find?_cons, e']
      rw [valV_pos e, b]; exact h2
    · have e' : ¬ q.1 = k := fun z => e (h1.trans z)
      have b : atKey (q :: qs) k = atKey qs k := by simp [atKey, List.find?_cons, e']
      rw [valV_neg e, b]; exact ih
theorem KT.keeps {H H' : Hp} {kvs : List (List Key × V)} {xs : List (List Key × Addr × Value)} (r : KT H kvs xs) (ht : ∀ b ys, H b = some (.tup ys) → H' b = some (.tup ys)) : KT H' kvs xs :=
  Paired.mapP r fun _ _ z => ⟨z.1, ht _ _ z.2.1, z.2.2⟩

section
variable {P : Program} {w : World} {H : Hp} {h : Heap} {a : Addr}
end

/-- what the dict at a holds at the key y -/
def DGet (H : Hp) (a : Addr) (y : V) (r : Option V) : Prop :=
  (∃ kvs k, Rd H a (.dK kvs) ∧ y = kV k ∧ r = valV kvs k) ∨ ∃ kvs k b, Rd H a (.dT kvs) ∧ y = .ref b ∧ H b = some (.tup (k.map kV)) ∧ r = valV kvs k
/-- the heap behind a[y] = v -/
def DPut (H : Hp) (a : Addr) (y v : V) (H' : Hp) : Prop :=
  (∃ kvs k, H a = some (.dK kvs) ∧ y = kV k ∧ kvs.length < sizeLine ∧ H' = upd H a (.dK (putK kvs k v))) ∨
  ∃ kvs k b, H a = some (.dT kvs) ∧ y = .ref b ∧ H b = some (.tup (k.map kV)) ∧ kvs.length < sizeLine ∧ H' = upd H a (.dT (putK kvs k v))
theorem DGet.k {H : Hp} {a : Addr} {kvs : List (Key × V)} {k : Key} (e : H a = some (.dK kvs)) : DGet H a (kV k) (valV kvs k) := .inl ⟨kvs, k, .inl e, rfl, rfl⟩
theorem DGet.t {H : Hp} {a b : Addr} {kvs : List (List Key × V)} {k : List Key} (e : H a = some (.dT kvs)) (eb : H b = some (.tup (k.map kV))) : DGet H a (.ref b) (valV kvs k) := .inr ⟨kvs, k, b, .inl e, rfl, eb, rfl⟩
theorem DPut.k {H : Hp} {a : Addr} {kvs : List (Key × V)} {k : Key} {v : V} (e : H a = some (.dK kvs)) (hl : kvs.length < sizeLine) : DPut H a (kV k) v (upd H a (.dK (putK kvs k v))) := .inl ⟨kvs, k, e, rfl, hl, rfl⟩
theorem DPut.t {H : Hp} {a b : Addr} {kvs : List (List Key × V)} {k : List Key} {v : V} (e : H a = some (.dT kvs)) (eb : H b = some (.tup (k.map kV))) (hl : kvs.length < sizeLine) :
    DPut H a (.ref b) v (upd H a (.dT (putK kvs k v))) := .inr ⟨kvs, k, b, e, rfl, eb, hl, rfl⟩


section
variable {X : Cx} {pins : List (Addr × Obj)} {σ : St} {H : Hp} {s : Shared} {a : Addr} {y v : V} {u r : Value} {o : Option V} {A : Around} {E : Value → Shared → Prop}

end

section
variable {X : Cx} {pins : List (Addr × Obj)} {σ : St} {H : Hp} {s : Shared} {a : Addr} {kvs : List (Key × V)} {k : Key} {u : Value} {A : Around} {E : Value → Shared → Prop}
end


section
variable {X : Cx} {o i e value : Expr} {pos pos' tpos : Pos} {td ty tv : TE}
end


section
variable {X : Cx} {pos : Pos}
end

/-- a method call o.m(e) of a built-in, with one argument: what must be seen of the text -/
structure M1 (X : Cx) (o : Expr) (m : Str) (apos : Pos) (e : Expr) (cpos : Pos) : Prop where
  base : attributeBase o m X.env (eval o X.env) = eval o X.env
  few : ((backTo cpos (starEach [e] X.env)).all (fun x => !x.1) && (backToKw cpos (keywordEach [] X.env)).all (fun x => x.1.isSome)
    && decide (([e] : List Expr).length + ([] : List Keyword).length + (if ([] : List Keyword).isEmpty then 0 else 1) < 30)) = true
  line : (apos.endLine == cpos.line) = true
  trees : backTo cpos (starEach [e] X.env) = [(false, eval e X.env)]
structure M2 (X : Cx) (o : Expr) (m : Str) (apos : Pos) (e f : Expr) (cpos : Pos) : Prop where
  base : attributeBase o m X.env (eval o X.env) = eval o X.env
  few : ((backTo cpos (starEach [e, f] X.env)).all (fun x => !x.1) && (backToKw cpos (keywordEach [] X.env)).all (fun x => x.1.isSome)
    && decide (([e, f] : List Expr).length + ([] : List Keyword).length + (if ([] : List Keyword).isEmpty then 0 else 1) < 30)) = true
  line : (apos.endLine == cpos.line) = true
  trees : backTo cpos (starEach [e, f] X.env) = [(false, eval e X.env), (false, eval f X.env)]

section
variable {X : Cx} {pins : List (Addr × Obj)} {σ : St} {H : Hp} {s : Shared} {a : Addr} {y d : V} {u r : Value} {o : Option V} {A : Around} {E : Value → Shared → Prop}
end

section
variable {X : Cx} {o e f : Expr} {apos cpos : Pos} {td ty tx : TE}
end

section
variable {X : Cx} {pins : List (Addr × Obj)} {σ : St} {H : Hp} {s : Shared} {a : Addr} {kvs : List (Key × V)} {A : Around} {E : Value → Shared → Prop}
end


section
variable {X : Cx} {pins : List (Addr × Obj)} {σ : St} {H : Hp} {s : Shared} {a : Addr} {y : V} {u : Value} {A : Around} {E : Value → Shared → Prop}
end
end L2

namespace L2
open PySem PySem.Spec PyProof.Rows

section
variable {prog : Program} {w : World} {A : Around} {E : Value → Shared → Prop}
end

section
variable {X : Cx}
end
end L2

namespace L2
open PySem PySem.Spec PyProof.Rows

section
variable {X : Cx} {pins : List (Addr × Obj)} {σ : St} {H : Hp} {s : Shared} {h' : Heap}
/-- .. and one new object is laid -/
theorem Inv.turnedNew {t' : Nat} {ch : List Addr} {T : Addr} {ob : HO} (I : Inv X pins σ H s) (k : ∀ b o, b ∉ ch → s.heap.get? b = some o → h'.get? b = some o) (hf : ∀ b ∈ ch, FpOk X pins H b) (hT : s.heap.objs.size ≤ T)
    (new : ObjOk X.prog X.w (upd H T ob) h' T ob) : Inv X pins σ (upd H T ob) { s with heap := h', toks := t' } := by
  have hn : H T = none := I.hok.fresh hT
  have nit : ∀ b u, H b = some u → b ∉ ch := fun b u e z => by
    have q := (hf b z).1
    rw [q] at e; cases e
  refine I.step (g' := s.gens) (d' := s.drawn) (ch := ch) (fun b hb => ⟨(hf b hb).2.2.2.1, (hf b hb).2.1, (hf b hb).2.2.2.2.1, (hf b hb).2.2.2.2.2⟩) (fun b o _ _ hc e _ => k b o hc e) (fun b o _ _ hc e _ => ⟨o.slots, k b o hc e⟩)
    (fun b o _ e n => ?_) (fun b o hc e => ⟨o, k b o hc e⟩) (fun b xs e => ?_) (fun b o u e => ?_) (fun b ps e => ⟨#[], ?_⟩) (fun m hm => ?_) (fun b u e => ?_) I.bare
  · rw [upd_ne (Nat.ne_of_lt (Nat.lt_of_lt_of_le (Heap.lt_size e) hT))]; exact n
  · rw [upd_ne (ne_of_none e hn)]; exact e
  · rw [upd_ne (ne_of_none e hn)]; exact e
  · rw [upd_ne (ne_of_none e hn), e]; simp
  · obtain ⟨o, es, ep, ho, r⟩ := hm
    exact ⟨o, es, ep, k _ o (fun z => (hf _ z).2.1 rfl) ho, r⟩
  · by_cases hb : b = T
    · subst hb
      rw [upd_same] at e
      cases e
      exact new
    · rw [upd_ne hb] at e
      refine (I.hok b u e).stay (fun c v hc q => k c v ?_ q) (fun c q => by rw [upd_ne (ne_of_none q hn)]; exact q) fun c xs q => by rw [upd_ne (ne_of_none q hn)]; exact q
      rcases hc with z | z
      · rw [z]; exact nit b u e
      · exact nit c _ z

end
section
variable {X : Cx}
end

section
variable {X : Cx} {tg : Expr}
end
section
variable {X : Cx} {tg : Expr}
end

section
variable {prog : Program} {w : World} {A : Around} {E : Value → Shared → Prop} {s : Shared}
end

section
variable {X : Cx} {pins : List (Addr × Obj)} {σ : St} {H : Hp} {s : Shared} {d : Addr} {o : Obj}
end

section
variable {P : Program} {w : World} {K : PySem.W.Frag} {tg : Expr} {d : Addr} {o : Obj} {es : Array DictEntry} {ep : Nat}
end

section
variable {X : Cx} {tg e : Expr} {td : TE} {apos cpos : Pos}
end

/-- the list at a as it stands at each turn, each item in a new pair -/
def Ite (K : PySem.W.Frag) (a : Addr) : It :=
  ⟨fun i H => ∃ (xs : List V) (x : V), SqL K H a xs ∧ xs[i]? = some x, fun i H v H' => ∃ T x, v = .ref T ∧ H T = none ∧ H' = upd H T (.tup [.int (i : Nat), x]) ∧ ∀ xs, SqL K H a xs → xs[i]? = some x, fun i H => ∃ xs : List V, SqL K H a xs ∧ xs.length ≤ i⟩
theorem turn_enum {P : Program} {w : World} {K : PySem.W.Frag} {elts : List Expr} {kk : Nat} {tpos : Pos} (a e it : Addr) :
    Turn P w K (.Tuple elts kk tpos) (Ite K a) [e, it] e (fun i h => (∃ old, IsEnum h e it ((i : Nat) : Int) old) ∧ h.IsListIter it a i ∧ e ≠ it) where
  mem := by simp
  obj := fun i h st b hb => by
    obtain ⟨⟨old, he⟩, ⟨o, ho, hc, hd⟩, _⟩ := st
    have e' : b = e ∨ b = it := by simpa using hb
    rcases e' with z | z
    · rw [z]; exact ⟨_, he, fun v q => nomatch q⟩
    · rw [z]; exact ⟨o, ho, fun v q => by rw [hd] at q; cases q⟩
  keep := fun i h h' st k => let ⟨⟨old, he⟩, hi, hne⟩ := st; ⟨⟨old, k e (by simp) _ he⟩, hi.at fun o q => k it (by simp) o q, hne⟩
  item := by
    intro X hP hw hK hc i pins s σ H E I hf st hg
    subst hP hw hK
    obtain ⟨⟨old, he⟩, hit, hne⟩ := st
    obtain ⟨xs, x, hq, hx⟩ := hg
    obtain ⟨its, rv, p, hz⟩ := I.list hq
    obtain ⟨u, hu, ru⟩ := rv.get hx
    have hel : e < s.heap.objs.size := Heap.lt_size he
    have hil : it < s.heap.objs.size := by obtain ⟨_, q, _⟩ := hit; exact Heap.lt_size q
    refine wpAny_pyNext_enum_item he hit p.isList (x := u) (by simpa using hu) hne fun h' ho hit' hT hsz hk => ?_
    refine ⟨_, rfl, wpAny_letOwnedTupleGo_enum (s := { s with heap := h', toks := s.toks + 1 }) ho fun h'' he' sb => ?_⟩
    have hT2 : h''.get? s.heap.objs.size = some { cls := .type "tuple", data := .seq #[.int i s.toks, u] } := (sb.2 _ (Nat.ne_of_gt hel)).trans hT
    have new : ObjOk X.prog X.w (upd H s.heap.objs.size (.tup [.int (i : Nat), x])) h'' s.heap.objs.size (.tup [.int (i : Nat), x]) :=
      ⟨by show 2 ≤ sizeLine; decide, [.int i s.toks, u], .cons ⟨_, rfl⟩ (.cons ru .nil), ⟨_, hT2, rfl, _, rfl⟩⟩
    have I1 : Inv X pins σ (upd H s.heap.objs.size (.tup [.int (i : Nat), x])) { s with heap := h'', toks := s.toks + 1 } :=
      I.turnedNew (ch := [e, it]) (fun b ob hb q => (sb.2 b (fun z => hb (by simp [z]))).trans (hk b ob (fun z => hb (by simp [z])) (fun z => hb (by simp [z])) q)) hf (Nat.le_refl _) new
    refine ⟨.ref s.heap.objs.size, _, I1, rfl, ⟨_, x, rfl, I.hok.fresh (Nat.le_refl _), rfl, fun ys hy => by rw [I.list_inj hy hq]; exact hx⟩, ⟨⟨u, ?_⟩, hit'.at fun o q => (sb.2 it (Ne.symm hne)).trans q, hne⟩, fun b hb => ?_⟩
    · have e1 : ((i + 1 : Nat) : Int) = (i : Int) + 1 := by omega
      rw [e1]; exact he'
    · have hb' : b < s.heap.objs.size := by
        have e' : b = e ∨ b = it := by simpa using hb
        rcases e' with z | z
        · rw [z]; exact hel
        · rw [z]; exact hil
      rw [upd_ne (Nat.ne_of_lt hb')]
      exact (hf b hb).1
  done := by
    intro X hP hw hK hc i pins s σ H E I hf st hg
    subst hP hw hK
    obtain ⟨⟨old, he⟩, hit, hne⟩ := st
    obtain ⟨xs, hq, hx⟩ := hg
    obtain ⟨its, rv, p, hz⟩ := I.list hq
    obtain ⟨f0, f1, f2, f3, f4, f5⟩ := hf it (by simp)
    have hl := rv.length
    exact wpAny_pyNext_enum_end (I.ok.hd hc) he hit p.isList (by simp; omega) fun h' eb => ⟨rfl, I.turned (t' := s.toks) (fun b o hb q => eb b o hb q) f0 f1 f3 f4 f5⟩
  self := fun A i s Q E st h => let ⟨⟨_, he⟩, _⟩ := st; wpAny_pyIter_enum he h
def iEnum (K : PySem.W.Frag) (ta : TA) : TI := fun σ H R => ta σ H fun vs H1 => ∃ a xs, vs = [.ref a] ∧ SqL K H1 a xs ∧ R (Ite K a) H1
theorem pi_enum {X : Cx} {e : Expr} {ta : TA} {p pos tpos : Pos} {elts : List Expr} {kk : Nat} (hg : Gl X "enumerate") (hm : X.mg "enumerate" = none) (ha : PA X [e] ta) (hs : starEach [e] X.env = [(false, eval e X.env)] := by rfl) :
    PI X (.Tuple elts kk tpos) (.Call (.Name "enumerate" p) [e] [] pos) (iEnum X.K ta) := by
  intro pins s σ H R I h
  refine Call_ (ld_blt I hg hm boot_enumerate (PyProof.Rows.callWith_type1 (thn (ha pos pins s σ H _ I h) fun us s1 ⟨vs, H1, I1, r1, q1⟩ => ?_) hs rfl))
  obtain ⟨a, xs, ex, hq, q⟩ := q1
  subst ex
  cases r1 with
  | cons r rr =>
    cases rr
    cases r
    obtain ⟨its, rv, p', hz⟩ := I1.list hq
    refine call_enumerate_list p'.isList fun h' he hit hsz hk => wpAny_pyIter_enum he ?_
    have I2 : Inv X pins σ H1 { s1 with heap := h' } := I1.kept (t' := s1.toks) hk
    refine ⟨s1.heap.objs.size + 1, [s1.heap.objs.size + 1, s1.heap.objs.size], _, _, H1, rfl, I2, turn_enum a (s1.heap.objs.size + 1) s1.heap.objs.size, ⟨⟨.none, he⟩, hit, Nat.succ_ne_self _⟩, fun b hb => ?_, q⟩
    have e' : b = s1.heap.objs.size + 1 ∨ b = s1.heap.objs.size := by simpa using hb
    have hle : s1.heap.objs.size ≤ b := by
      rcases e' with z | z
      · rw [z]; exact Nat.le_add_right _ _
      · rw [z]; exact Nat.le_refl _
    exact I1.fpOk hle (I1.hok.fresh hle)
theorem boot_zip5 : bootBuiltins "zip" = some (.type "zip") := by decide +kernel
end L2

section 
namespace Bits
open PySem PyProof.Rows

end Bits
end 

section 
namespace TL
open PySem PySem.Builtin PySem.Builtin.Str PySem.StrLaws

abbrev tl (x : Str) : List Nat := x.cps.toList
/-- S stands at the head of l -/
def pre (S l : List Nat) : Bool := l.take S.length == S
/-- what stands before the first S, and behind it -/
def par (S : List Nat) : List Nat → List Nat → Option (List Nat × List Nat)
  | _, [] => none
  | acc, c :: r => if pre S (c :: r) = true then some (acc, (c :: r).drop S.length) else par S (acc ++ [c]) r

end TL
end 

namespace L2
open PySem PySem.Spec PyProof.Rows

section
variable {X : Cx} {pins : List (Addr × Obj)} {σ : St} {H : Hp} {s : Shared} {Q : VK}
end

section
variable {X : Cx}

end

section
variable {X : Cx} {o e : Expr} {to te : TE}
end
end L2

namespace L2
open PySem PySem.Spec PyProof.Rows

section
variable {X : Cx}
end

theorem IsPart.raw {v : Value} {o : Option Int} (p : IsPart v o) : ∃ l : Option (Int × Tok), v = partValue l ∧ l.map (·.1) = o := by
  cases p with
  | none => exact ⟨none, rfl, rfl⟩
  | int i t => exact ⟨some (i, t), rfl, rfl⟩

end L2

namespace Att
open PySem PySem.W PySem.Calls PyProof.Rows

theorem ints_of_wellAll {P : Params} {h : Heap} : ∀ (ns : List Int) (vs : List Value), WellAll P h vs (ns.map WData.int) → IntsAre vs ns := by
  intro ns
  induction ns with
  | nil =>
    intro vs w
    rw [List.map_nil] at w
    cases w
    exact .nil
  | cons n ns ih =>
    intro vs w
    rw [List.map_cons] at w
    cases w with
    | cons a b =>
      cases a
      exact .cons _ _ (ih _ b)

theorem script_of {l : OpenLaw} {n : Nat} (hn : l.most = some n) {P : Params} {h : Heap} {args : List WData} {vals : List Value}
    (hpre : l.row.toRowW.claim.pre args = true) (hwl : WellAll P h vals args) :
    ∃ a vs ns, vals = [Value.ref a] ∧ args = [WData.list (ns.map WData.int)] ∧ h.get? a = some { cls := .type "list", data := .seq vs.toArray } ∧ IntsAre vs ns ∧ ns.length ≤ n := by
  have hsh : WShape.hasAll [] args [.list .int] = true := (pre_splitW hpre).1
  have hc : l.pre.holds [] { args := args } = true := (pre_splitW hpre).2
  obtain ⟨d, r, rfl, h1, h2⟩ := hasAllW_cons hsh
  obtain rfl := hasAllW_nil h2
  obtain ⟨xs, rfl, h3⟩ := hasW_list h1
  obtain ⟨ns, rfl⟩ := items_int h3
  have hlen : ns.length ≤ n := by
    unfold OpenLaw.pre at hc
    have h4 : (WTm.not (.lt (.lit (.int (n : Int))) (.len (.arg 0)))).holds [] { args := [.list (ns.map .int)] } = true := by
      have h4 := (holds_andW hc).1
      rw [hn] at h4
      exact h4
    have h5 := condW_of h4 (w_not (w_lt w_lit (w_len_list (w_arg rfl))))
    rw [List.length_map] at h5
    refine Nat.le_of_not_lt fun q => ?_
    have q' : (n : Int) < ((ns.length : Nat) : Int) := by omega
    first
      | (rw [decide_eq_true q'] at h5; exact absurd h5 (by decide))
      | (simp at h5; omega)
  cases hwl with
  | cons w1 w2 =>
    cases w2
    cases w1 with
    | list ho hall => exact ⟨_, _, ns, rfl, rfl, ho, ints_of_wellAll ns _ hall, hlen⟩

theorem post_true (l : OpenLaw) (args : List WData) : l.row.toRowW.claim.post args (.bool true) args = true :=
  postW_of (r := l.row.toRowW) (X := (true == true))
    (show WShape.has [] (.bool true) .bool = true by first | rfl | decide | simp [WShape.has, WShape.arms, WShape.armsAll])
    (show (WTm.eq .res (.lit (.bool true))).value [] { args := args, res := some (.bool true), after := args } = some (.bool (true == true)) from w_eq_bool (w_res rfl) w_lit) rfl

/-- the same from a codeAny of the CALL (for a layer whose function contracts speak of calls) -/
theorem attach_call {l : OpenLaw} {n : Nat} {q : Program} {loose : List Str} {XP : (Str → Option Value) → Heap → Prop} {YP : World → Heap → Prop} {d : DefRec}
    (hn : l.most = some n) (hdf : d.params.defaults = [])
    (call : ∀ (w : World) (s₀ s₁ : Shared) (mg mb : Str → Option Value) (fa : Addr) (o : Obj) (pm cd doc : Value) (a : Addr) (vs : List Value) (ns : List Int),
      Ground q loose [] XP w s₀ mg mb s₁.heap → YP w s₁.heap →
      s₁.heap.get? fa = some o → o.data = .func (docDef d.name d.params d.body d.scope pm cd doc) → s₁.heap.CodeRec cd d.name → mg d.name = some (.ref fa) →
      s₁.heap.get? a = some { cls := .type "list", data := .seq vs.toArray } → IntsAre vs ns → ns.length ≤ n → s₁.gens = #[] →
      codeAny (model l.prog w) callerA (.call (.ref fa) ⟨[.ref a], []⟩) (fun r s' => r = .ok (.ret (.bool true)) ∧ OldK s₁.heap s'.heap ∧ s'.os = s₁.os ∧ AllBare s'.gens) s₁) :
    WalkO q loose XP YP l.row.toRowW d [] (fun f vs => PySem.call f vs) := by
  intro w s₀ s₁ mg mb G Y fa o pm cd doc dV kV ho hd hcd hD hmg hg args vals as hpre hlay hrd hwl hlo
  obtain rfl : dV = .none := Dflts.none hD hdf
  obtain rfl : kV = .none := Dflts.noKw hD
  obtain ⟨a, vs, ns, rfl, rfl, hobj, hints, hlen⟩ := script_of hn hpre hwl
  refine enter_call (codeAny_mono (call w s₀ s₁ mg mb fa o pm cd doc a vs ns G Y ho (fd_plain hd) hcd hmg hobj hints hlen hg) fun r s' hq => ?_)
  obtain ⟨rfl, h2, h3, h4⟩ := hq
  exact ⟨.inl ⟨.bool true, .bool true, [], rfl, fun _ => rfl, .bool true, post_true l _, fun _ => ⟨List.Pairwise.nil, fun _ hm => (nomatch hm)⟩⟩, h2, h3, h4⟩

section
variable {prog : Program} {w : World} {A : Around} {E : Value → Shared → Prop} {s : Shared} {K : Frag}

end
end Att

namespace L2
open PySem PySem.Spec PyProof.Rows

theorem vals_ints : ∀ {vs : List Value} {ns : List Int}, IntsAre vs ns → Vals (ns.map V.int) vs
  | _, _, .nil => .nil
  | _, _, .cons n t h => .cons ⟨t, rfl⟩ (vals_ints h)

/-- nothing is tracked but the script, known to the object (or it is an object of the module) -/
def Only (H : Hp) : Prop := ∀ b, H b = none ∨ (∃ o xs, H b = some (.frz o (.lst xs))) ∨ H b = some (.tbl #[])

/-- THE HEAD, with the tables of the top's defs tracked -/
theorem law_call {P : Program} {w : World} {K : PySem.W.Frag} {mg mb : Str → Option Value} {CX : CXT} {k : Nat} {fa a : Addr} {fd : FuncData} {x : Str} {sp : Sp} {s₁ : Shared} {vs : List Value} {ns : List Int}
    (KX : K.In s₁.heap) (hns : s₁.heap.Ns mainGlobals mg) (hb : s₁.heap.Ns builtinsNs mb) (hbb : ∀ x : Str, x ≠ "__name__" → mb x = bootBuiltins x) (hlim : s₁.heap.NoLimit) (hg : s₁.gens = #[])
    (ha : s₁.heap.get? a = some { cls := .type "list", data := .seq vs.toArray }) (hi : IntsAre vs ns) (hl : ns.length ≤ sizeLine) (hr : Room k callerA)
    (hbm : ∃ bm ob, BMod s₁.heap mainGlobals mg bm ob) (hT : ∀ Pt, TabOf P K mg Pt → K.lookup Pt = none ∧ ∃ c, s₁.heap.TableAt c Pt #[])
    (F : ∀ base : Heap, K.In base → base.Ns mainGlobals mg → FnOk P w K mg base CX k fa fd [x] sp) (hbind : ∀ (s : Shared) (u : Value), BindsTo s fd ⟨[u], []⟩ [(x, u)])
    (hsp : ∀ H : Hp, Only H → SqL K H a (ns.map V.int) → sp [.ref a] H (fun v _ => v = .bl true) fun _ _ _ => False)
    (hCX : ∀ H e s', CX [] H s₁ (fun _ _ _ => False) e s' → False) :
    codeAny (model P w) callerA (.call (.ref fa) ⟨[.ref a], []⟩) (fun r s' => r = .ok (.ret (.bool true)) ∧ OldK s₁.heap s'.heap ∧ s'.os = s₁.os ∧ AllBare s'.gens) s₁ := by
  have rv := vals_ints hi
  have lenV := hi.length
  have noTa : ¬ TabOf P K mg a := fun t => by
    obtain ⟨_, c, _, ht⟩ := hT a t
    rw [ha] at ht
    cases ht
  have core : ∀ H : Hp, Only H → SqL K H a (ns.map V.int) → HOk P w H s₁.heap → (∀ b, H b ≠ none → (b = a ∧ ∃ o xs, H b = some (.frz o (.lst xs))) ∨ (TabOf P K mg b ∧ H b = some (.tbl #[]))) → Tabs P K mg H → (H a ≠ none → K.lookup a = none) →
      codeAny (model P w) callerA (.call (.ref fa) ⟨[.ref a], []⟩) (fun r s' => r = .ok (.ret (.bool true)) ∧ OldK s₁.heap s'.heap ∧ s'.os = s₁.os ∧ AllBare s'.gens) s₁ := by
    intro H hO hS hok hA hTb hK
    have base_of : ∀ {b : Addr} {o : Obj}, s₁.heap.get? b = some o → H b = none → (hidT s₁.heap H).get? b = some o := fun e n => hidT_get e n
    have noA : ∀ {b : Addr} {o : Obj} {es : Array DictEntry} {ep : Nat}, s₁.heap.get? b = some o → o.data = .dict es ep → H b = none := fun {b o es ep} e d => by
      cases q : H b with
      | none => rfl
      | some u =>
        rcases hA b (by rw [q]; simp) with ⟨e', _⟩ | ⟨tb, _⟩
        · subst e'
          rw [ha] at e; cases e
          have d' : Data.seq vs.toArray _ = Data.dict es ep := d
          cases d'
        · obtain ⟨_, c, _, ht⟩ := hT b tb
          rw [ht] at e; cases e
          have d' : Data.fields _ = Data.dict es ep := d
          cases d'
    have nsK : ∀ {b : Addr} {m : Str → Option Value}, s₁.heap.Ns b m → (hidT s₁.heap H).Ns b m := fun {b m} ⟨o, es, ep, e, d, r⟩ => ⟨o, es, ep, base_of e (noA e d), d, r⟩
    have hKb : K.In (hidT s₁.heap H) := fun b o e => base_of (KX b o e) (by
      cases q : H b with
      | none => rfl
      | some u =>
        rcases hA b (by rw [q]; simp) with ⟨e', _⟩ | ⟨tb, _⟩
        · subst e'
          rw [hK (by rw [q]; simp)] at e; cases e
        · rw [(hT b tb).1] at e; cases e)
    have hM : Mod K mg (hidT s₁.heap H) := ⟨hKb, nsK hns, ⟨mb, nsK hb, hbb⟩, let ⟨mc, h1, h2⟩ := hlim; ⟨mc, nsK h1, h2⟩, by
      obtain ⟨bm, ob, M⟩ := hbm
      refine ⟨bm, ob, nsK M.ns, M.name, M.ne, base_of M.obj ?_, M.cls, M.dict, M.data⟩
      cases q : H bm with
      | none => rfl
      | some u =>
        have hob := M.obj
        have hda := M.data
        rcases hA bm (by rw [q]; simp) with ⟨e', _⟩ | ⟨tb, _⟩
        · rw [e', ha] at hob
          cases hob
          cases hda
        · obtain ⟨_, c, _, ht⟩ := hT bm tb
          rw [ht] at hob
          cases hob
          cases hda⟩
    have e0 : Env0 P w K mg (hidT s₁.heap H) callerA [] s₁ H := ⟨rfl, hM, fun b o e => of_hidT e, Nat.le_of_eq (hidT_size _ _), trivial, fun b hb => absurd (show b ∈ ([] : List Addr) from hb) (by simp), hok, .of_eq hg, hTb⟩
    refine codeAny_mono ((F _ hKb (nsK hns)).run callerA [] s₁ H ⟨[.ref a], []⟩ [.ref a] [.ref a] _ _ hr e0 (hbind s₁ (.ref a)) (.cons rfl .nil) (hsp H hO hS)) fun r s' h => ?_
    cases r with
    | error e => exact (hCX H e s' h).elim
    | ok fl =>
      cases fl with
      | next => exact False.elim h
      | brk => exact False.elim h
      | cont => exact False.elim h
      | ret u =>
        obtain ⟨v, H', os, bare, un, hok', r', q⟩ := h
        have q' : v = .bl true := q
        subst q'
        obtain rfl : u = Value.bool true := r'
        refine ⟨rfl, ⟨fun b o e => ?_, fun b o e => un.there b o e (by simp)⟩, os, bare⟩
        cases q : H b with
        | none => exact .inl (un.keep b o e q (by intro z; exact absurd (show b ∈ ([] : List Addr) from z) (by simp)) (by simp))
        | some u =>
          rcases hA b (by rw [q]; simp) with ⟨_, ob, xs, z⟩ | ⟨tb, z⟩
          · have z2 := un.frzs b ob _ z
            obtain ⟨e1, _⟩ := hok b _ z
            obtain ⟨e2, _⟩ := hok' b _ z2
            rw [e] at e1; cases e1
            exact .inl e2
          · obtain ⟨_, c, ht⟩ := hT b tb
            obtain ⟨more, z2⟩ := un.tbls b _ z
            have e2 : s'.heap.get? b = some { cls := .none, data := .fields (#[] ++ more) } := (show _ ∧ _ from hok' b _ z2).1
            have eo : o = { cls := .none, data := .fields #[] } := Option.some.inj (e.symm.trans ht.2)
            subst eo
            exact .inr (.inl ⟨ht.isCodeTable, rfl, #[], more, rfl, e2⟩)
  classical
  cases hk : K.lookup a with
  | some o =>
    -- the script is one of the module's own objects
    have e := KX a o hk
    rw [ha] at e
    cases e
    refine core (fun b => if TabOf P K mg b then some (.tbl #[]) else none) (fun b => ?_) (.inr ⟨_, vs.toArray, _, hk, rfl, rfl, rfl, by rw [List.size_toArray, lenV]; exact hl, by simpa using rv⟩) (fun b u z => ?_) (fun b z => ?_) (fun Pt t => ⟨_, if_pos t⟩) fun z => absurd (if_neg noTa) z
    · by_cases hb : TabOf P K mg b
      · exact .inr (.inr (if_pos hb))
      · exact .inl (if_neg hb)
    · by_cases hb : TabOf P K mg b
      · have z' := (if_pos hb).symm.trans z
        cases z'
        obtain ⟨_, c, ht⟩ := hT b hb
        exact ⟨ht.2, trivial⟩
      · have z' := (if_neg hb).symm.trans z
        cases z'
    · by_cases hb : TabOf P K mg b
      · exact .inr ⟨hb, if_pos hb⟩
      · exact absurd (if_neg hb) z
  | none =>
    refine core (fun b => if b = a then some (.frz { cls := .type "list", data := .seq vs.toArray } (.lst (ns.map V.int))) else if TabOf P K mg b then some (.tbl #[]) else none) (fun b => ?_) (.inl (.inr ⟨{ cls := .type "list", data := .seq vs.toArray }, if_pos rfl⟩)) (fun b u z => ?_) (fun b z => ?_)
      (fun Pt t => ⟨#[], by show (if Pt = a then _ else if TabOf P K mg Pt then _ else _) = _; rw [if_neg (show ¬ Pt = a from fun z => noTa (by rw [← z]; exact t)), if_pos t]⟩) fun _ => hk
    · by_cases hb : b = a
      · exact .inr (.inl ⟨_, _, if_pos hb⟩)
      · by_cases ht : TabOf P K mg b
        · exact .inr (.inr ((if_neg hb).trans (if_pos ht)))
        · exact .inl ((if_neg hb).trans (if_neg ht))
    · by_cases hb : b = a
      · have z' := (if_pos hb).symm.trans z
        cases z'
        subst hb
        exact ⟨ha, by rw [List.length_map]; exact hl, vs, _, rv, ha⟩
      · by_cases ht : TabOf P K mg b
        · have z' := ((if_neg hb).trans (if_pos ht)).symm.trans z
          cases z'
          obtain ⟨_, c, ht⟩ := hT b ht
          exact ⟨ht.2, trivial⟩
        · have z' := ((if_neg hb).trans (if_neg ht)).symm.trans z
          cases z'
    · by_cases hb : b = a
      · exact .inl ⟨hb, _, _, if_pos hb⟩
      · by_cases ht : TabOf P K mg b
        · exact .inr ⟨ht, (if_neg hb).trans (if_pos ht)⟩
        · exact absurd ((if_neg hb).trans (if_neg ht)) z
end L2

namespace L2
open PySem PySem.Spec PyProof.Rows

/-- the tables at the law's entry -/
theorem tabs_at {l q : Program} {loose : List Str} {R : PySem.W.WRecords} {XP : (Str → Option Value) → Heap → Prop} {w : World} {s₀ : Shared} {mg mb : Str → Option Value} {h : Heap} {K : PySem.W.Frag} (G : PySem.W.Ground q loose R XP w s₀ mg mb h)
    (KX : K.In h) (hq : recsOf l = recsOf q) (hcl : PySem.W.kb_classed K = true) : ∀ Pt, TabOf l K mg Pt → K.lookup Pt = none ∧ ∃ c, h.TableAt c Pt #[] := by
  rintro Pt ⟨d, hd, f, o, fd, c, oc, vs, h1, h2, h3, h4, h5, h6, h7⟩
  rw [hq] at hd
  obtain ⟨a', o', fd', c', P', t1, t2, t3, t4, t5, t6⟩ := G.T.tab d hd
  rw [h1] at t1
  cases t1
  have e1 := KX _ _ h2
  rw [t2] at e1
  cases e1
  rw [h3] at t3
  cases t3
  rw [h4] at t4
  cases t4
  obtain ⟨oq, vq, _, _, _, _, _, _, _, _, g1, g2, g3, _⟩ := t5
  have e2 := KX _ _ h5
  rw [g1] at e2
  cases e2
  rw [h6] at g2
  cases g2
  rw [h7] at g3
  cases g3
  refine ⟨?_, c, t6⟩
  cases hk : K.lookup Pt with
  | none => rfl
  | some op =>
    exfalso
    have e3 := KX _ _ hk
    have q := List.all_eq_true.mp hcl (Pt, op) (PySem.W.kb_mem hk)
    simp only [Bool.or_eq_true, decide_eq_true_eq, beq_iff_eq] at q
    have e4 := t6.2
    rw [e3] at e4
    cases e4
    rcases q with (q | q) | q
    · exact q rfl
    · obtain ⟨mc, ⟨ox, es, ep, n1, n2, _⟩, _⟩ := G.T.nodigits
      rw [← q, e3] at n1
      cases n1
      cases n2
    · obtain ⟨ox, es, ep, n1, n2, _⟩ := G.T.g
      rw [← q, e3] at n1
      cases n1
      cases n2
/-- the goal that k_head leaves, from the law's promise -/
theorem walk_of {l : PySem.W.OpenLaw} {n k : Nat} {q : Program} {loose : List Str} {XP : (Str → Option Value) → Heap → Prop} {YP : World → Heap → Prop} {d : DefRec} {K : Params → PySem.W.Frag} {CX : World → CXT} {sp : World → Sp} {x : Str}
    (hn : l.most = some n) (hn2 : n ≤ sizeLine) (hdf : d.params.defaults = []) (hr : Room k callerA)
    (hq : recsOf l.prog = recsOf q) (hcl : ∀ w : World, PySem.W.kb_classed (K w.params) = true)
    (hY : ∀ (w : World) (h : Heap), YP w h → (K w.params).In h)
    (F : ∀ (w : World) (mg : Str → Option Value) (fa : Addr) (h : Heap), (K w.params).In h → h.Ns mainGlobals mg → mg d.name = some (.ref fa) →
      ∃ fd : FuncData, (∀ (s : Shared) (u : Value), BindsTo s fd ⟨[u], []⟩ [(x, u)]) ∧
        ∀ base : Heap, (K w.params).In base → base.Ns mainGlobals mg → FnOk l.prog w (K w.params) mg base (CX w) k fa fd [x] (sp w))
    (hsp : ∀ (w : World) (H : Hp) (a : Addr) (ns : List Int), ns.length ≤ n → Only H → SqL (K w.params) H a (ns.map V.int) → sp w [.ref a] H (fun v _ => v = .bl true) fun _ _ _ => False)
    (hCX : ∀ (w : World) (H : Hp) (s : Shared) (e : Value) (s' : Shared), CX w [] H s (fun _ _ _ => False) e s' → False) :
    PySem.W.WalkO q loose XP YP l.row.toRowW d [] (fun f vs => PySem.call f vs) := by
  refine Att.attach_call hn hdf fun w s₀ s₁ mg mb fa o pm cd doc a vs ns G Y ho hd hcd hmg hobj hints hlen hg => ?_
  have KX := hY w _ Y
  obtain ⟨fd, hb, hF⟩ := F w mg fa _ KX G.T.g hmg
  exact law_call KX G.T.g G.T.b G.T.builtins G.T.nolimit hg hobj hints (Nat.le_trans hlen hn2) hr (PySem.W.bmod_of_top G.T) (tabs_at G KX hq (hcl w)) hF hb (fun H hO hS => hsp w H a ns hlen hO hS) fun H e s' => hCX w H s₁ e s'
end L2


namespace L2
open PySem PySem.Spec PyProof.Rows

def defArgs (s : Stmt) : Arguments := match s with
  | .FunctionDef _ a _ _ _ _ _ _ _ _ => a
  | _ => { posonlyargs := [], args := [], vararg := none, kwonlyargs := [], kw_defaults := [], kwarg := none, defaults := [] }
def defBody (s : Stmt) : List Stmt := match s with
  | .FunctionDef _ _ b _ _ _ _ _ _ _ => b
  | _ => []
def defScope (s : Stmt) : Scope := match s with
  | .FunctionDef _ _ _ _ _ _ sc _ _ _ => sc
  | _ => { kind := .function, names := [], isGenerator := false, isCoroutine := false }

abbrev CX0 : CXT := fun _ _ _ _ _ _ => False
abbrev E0 : XK := fun _ _ _ => False
theorem pass0 {X : Cx} : Passes CX0 X E0 := fun _ _ _ _ _ _ _ h => h.elim

structure Fun (K : PySem.W.Frag) (x qual : Str) (st : Stmt) (f : Addr) (fd : FuncData) : Prop where
  ex : ∃ (oc : Value) (od : Option Addr) (kV doc pm : Value) (an : Option Addr) (cdv ct : Value) (osl : Array (Option Value)),
    fd = PySem.W.fnOf x qual (defArgs st) (defBody st) (defScope st) .none kV doc pm an cdv ct ∧ K.lookup f = some ⟨oc, od, .func fd, osl⟩ ∧ PySem.W.codeIn K cdv qual = true
  kp : PySem.W.keepIn K (.ref f) = true
section
variable {P : Program} {w : World} {K : PySem.W.Frag} {mg : Str → Option Value} {base : Heap}
/-- THE RULE for a def: its body as a term of rules, and the reading of that term -/
theorem Fun.ok {x qual : Str} {st : Stmt} {f : Addr} {fd : FuncData} {N ps : List Str} {k : Nat} {sp : Sp} (F : Fun K x qual st f fd) (S : FnScope N ps (defScope st)) (len : ∀ vs H Q E, sp vs H Q E → vs.length = ps.length)
    (hbody : ∀ (cdv : Value) (A : Around) (outer : List Env) (s : Shared) (H : Hp) (vs : List V) (Q : VK) (E : XK), Room k (A.deeper (envOfC qual (defScope st) s.heap.objs.size f cdv)) → sp vs H Q E →
      ∃ t, PSs (cxOf CX0 P w K mg base N qual (defScope st) f cdv A outer s H E).nox (defBody st) t ∧ t { nx := fun _ H' => Q .non H', rt := Q } (start N vs) H) : FnOk P w K mg base CX0 (k + 1) f fd ps sp := by
  obtain ⟨oc, od, kV, doc, pm, an, cdv, ct, osl, rfl, lk, hcd⟩ := F.ex
  refine fn_of lk hcd S len fun A outer s H vs Q E hr hsp => ?_
  obtain ⟨t, h, q⟩ := hbody cdv A outer s H vs Q E hr hsp
  exact ⟨t, h.nox, q⟩
/-- how its arguments bind (no defaults): h is «fun _ _ _ _ _ _ us hl => match us, hl with | [_, _], _ => rfl», one _ a parameter -/
theorem Fun.binds {x qual : Str} {st : Stmt} {f : Addr} {fd : FuncData} {ps : List Str} (F : Fun K x qual st f fd)
    (h : ∀ (kV doc pm : Value) (an : Option Addr) (cdv ct : Value) (us : List Value), us.length = ps.length → bindArgs (PySem.W.fnOf x qual (defArgs st) (defBody st) (defScope st) .none kV doc pm an cdv ct) ⟨us, []⟩ = pure (ps.zip us)) : Binds K fd ps [] := by
  obtain ⟨oc, od, kV, doc, pm, an, cdv, ct, osl, rfl, lk, hcd⟩ := F.ex
  exact .all (h kV doc pm an cdv ct)
theorem fun_mk {x qual : Str} {st : Stmt} {f : Addr} {oc : Value} {od an : Option Addr} {osl : Array (Option Value)} {kV doc pm cdv ct : Value} (l : K.lookup f = some ⟨oc, od, .func (PySem.W.fnOf x qual (defArgs st) (defBody st) (defScope st) .none kV doc pm an cdv ct), osl⟩)
    (c : PySem.W.codeIn K cdv qual = true) (k : PySem.W.keepIn K (.ref f) = true) : Fun K x qual st f (PySem.W.fnOf x qual (defArgs st) (defBody st) (defScope st) .none kV doc pm an cdv ct) := ⟨⟨oc, od, kV, doc, pm, an, cdv, ct, osl, rfl, l, c⟩, k⟩
end
theorem small1000 {n : Nat} (h : n ≤ 1000) : n < sizeLine := Nat.lt_of_le_of_lt h (by decide)

section
variable {X : Cx}
theorem pv (i : Nat) {x : Str} {pos : Pos} (hN : X.N[i]? = some x := by rfl) (hv : Vis X.env.scope x := by first | exact Or.inl rfl | exact Or.inr (Or.inl rfl) | exact Or.inr (Or.inr rfl)) (hd : (x == ("__debug__" : Str)) = false := by decide)
    (hcd : (x == ("__classdict__" : Str)) = false := by decide) : PE X (.Name x pos) (tVar i) := pe_var hN hv hd hcd
end

theorem ite2 {c A B : Prop} [Decidable c] (h1 : c → A) (h2 : ¬ c → B) : if c then A else B := by
  by_cases h : c
  · rw [if_pos h]
    exact h1 h
  · rw [if_neg h]
    exact h2 h
/-- all that was tracked is as it was -/
def SamO (o : HO) (x : Option HO) : Prop := match o with | .tbl _ => ∃ qs, x = some (.tbl qs) | o => x = some o
theorem SamO.refl (o : HO) : SamO o (some o) := by cases o <;> first | rfl | exact ⟨_, rfl⟩
theorem SamO.of {o : HO} {x : Option HO} (h : x = some o) : SamO o x := by rw [h]; exact SamO.refl o
theorem SamO.some {o : HO} {x : Option HO} (h : SamO o x) : ∃ u, x = some u := by cases o <;> first | exact ⟨_, h⟩ | exact let ⟨_, e⟩ := h; ⟨_, e⟩
theorem SamO.ne {o : HO} {H : Hp} {c p : Addr} (h : SamO o (H c)) (f : H p = none) : c ≠ p := fun z => by
  obtain ⟨u, e⟩ := h.some
  rw [z, f] at e
  cases e
/-- all that was tracked is as it was (code tables may have grown) -/
def Same (H H' : Hp) : Prop := ∀ b o, H b = some o → SamO o (H' b)
theorem Same.ap {H H' : Hp} (s : Same H H') {c : Addr} {o : HO} (h : SamO o (H c)) : SamO o (H' c) := by
  cases o <;> first
    | exact s c _ h
    | (obtain ⟨qs, e⟩ := h; have z : ∃ r, H' c = Option.some (.tbl r) := s c (.tbl qs) e; exact z)
theorem Same.refl (H : Hp) : Same H H := fun _ _ h => SamO.of h
theorem Same.trans {H H1 H2 : Hp} (a : Same H H1) (b : Same H1 H2) : Same H H2 := fun c o h => b.ap (a c o h)
theorem Same.free {H H' : Hp} (e : Same H H') {l : Addr} (h : H' l = Option.none) : H l = Option.none := by
  cases q : H l with
  | none => rfl
  | some o =>
    obtain ⟨u, z⟩ := (e l o q).some
    rw [z] at h
    cases h
theorem Same.tb {H : Hp} {p : Addr} {ps qs : Array Value} (h : H p = Option.some (.tbl ps)) : Same H (upd H p (.tbl qs)) := fun b o e => by
  by_cases hb : b = p
  · subst hb
    rw [h] at e
    cases e
    exact ⟨qs, upd_same⟩
  · rw [upd_ne hb]
    exact SamO.of e
theorem Same.seq {K : PySem.W.Frag} {H H' : Hp} {a : Addr} {xs : List V} (e : Same H H') (h : SqL K H a xs) : SqL K H' a xs := by
  rcases h with (h | ⟨o, h⟩) | h
  · exact .inl (.inl (e _ _ h))
  · exact .inl (.inr ⟨o, e _ _ h⟩)
  · exact .inr h

section
variable {κ : Type} [DecidableEq κ]
end
theorem at_of {xs : List V} {z : Int} {j : Nat} {v : V} (e : z = (j : Int)) (h : xs[j]? = some v) : atI xs z = some v := by
  rw [e]
  exact atI_nat h
/-- a new instance and its __init__ leave all that was tracked as it was -/
theorem Same.made {H H1 : Hp} {x dx C : Addr} (nx : H x = Option.none) (nd : H dx = Option.none) (k : ∀ b o, (upd (upd H dx (.own x)) x (.ins C dx [])) b = some o → b ≠ x → H1 b = some o) : Same H H1 := fun b o e => SamO.of <|
  k b o (by rw [upd_ne (ne_of_none e nx), upd_ne (ne_of_none e nd)]; exact e) (ne_of_none e nx)
end L2

set_option Elab.async false
set_option linter.all false
set_option maxRecDepth 100000
set_option maxHeartbeats 4000000
namespace L2
open PySem PySem.Spec PyProof.Rows

section
variable {X : Cx}
def tRevL (K : PySem.W.Frag) (te : TE) : TE := fun σ H Q => te σ H fun x H1 => ∃ a xs, x = .ref a ∧ SqL K H1 a xs ∧ ∀ p, H1 p = none → Q (.ref p) (upd H1 p (.lst xs.reverse))
theorem pe_rev {e : Expr} {te : TE} {j : Nat} {p1 p2 p3 pos : Pos} (he : PE X e te) : PE X (.Subscript e (.Slice none none (some (.UnaryOp .USub (.Constant (.int 1) j p1) p3)) p2) pos) (tRevL X.K te) := by
  intro pins s σ H Q I h
  refine Subscript_ (thn (he pins s σ H _ I h) fun v s1 ⟨x, H1, I1, r1, q1⟩ => ?_)
  obtain ⟨a, xs, rfl, hx, q⟩ := q1
  cases r1
  refine wpAny_Slice ?_
  rw [evalPart_none]
  refine wpAny_pure (wpAny_pure ?_)
  refine thn (po_some (X := X) (pe_un un_neg pe_int) pins s1 σ H1 (fun o H' => o = some (-1) ∧ H' = H1) I1 ⟨1, rfl, -1, rfl, rfl, rfl⟩) fun u s2 ⟨o, H2, I2, pu, e, eH⟩ => ?_
  subst e
  have eH' : H2 = H1 := eH
  subst eH'
  have I4 : Inv X pins σ H2 { s2 with heap := s2.heap.push { cls := .type "slice", data := .fields #[.none, .none, u] } } := I2.kept (t' := s2.toks) fun b ob q => Heap.get?_push_of_some _ q
  obtain ⟨its, r, ht, hz⟩ := I4.list hx
  have hlen := r.length
  show wpAny (model X.prog X.w) X.A (subscriptTail e (.Slice none none (some (.UnaryOp .USub (.Constant (.int 1) j p1) p3)) p2) (.ref a) (.ref s2.heap.objs.size)) (EP X pins σ Q) X.xe { s2 with heap := s2.heap.push { cls := .type "slice", data := .fields #[.none, .none, u] } }
  refine tail_any (ops := [.ref a, .ref s2.heap.objs.size]) ht.isList.typeIs slot_list_getitem.lookup ?_ (by with_unfolding_all rfl)
  refine wpAny_getItem_list_slice ht.isList (Heap.IsSliceOf.new ..) .none .none pu (by simp) ?_ (by rw [List.size_toArray] <;> omega)
  rw [PySem.W.krv_pick]
  refine ⟨.ref (s2.heap.push { cls := .type "slice", data := .fields #[.none, .none, u] }).objs.size, _, I4.laid (t' := s2.toks) (o := .lst xs.reverse) (fun b ob q => Heap.get?_push_of_some _ q) (Nat.le_refl _) ?_, rfl, q _ (I4.hok.fresh (Nat.le_refl _))⟩
  refine ⟨by rw [List.length_reverse]; exact hz, its.reverse, 0, ?_, Heap.get?_push_size _ rfl⟩
  exact Vals.reverse r

def tChain3 (r r' r'' : R2) (ta tb tc td : TE) : TE := fun σ H Q => ta σ H fun x H1 => tb σ H1 fun y H2 => r x y H2 fun z H3 => ∃ k, z = .bl k ∧
  (if k = true then tc σ H3 fun w' H4 => r' y w' H4 fun z' H5 => ∃ k', z' = .bl k' ∧ (if k' = true then td σ H5 fun u H6 => r'' w' u H6 Q else Q (.bl false) H5) else Q (.bl false) H3)
theorem pe_chain3 {a b c d : Expr} {ta tb tc td : TE} {pos : Pos} {op op' op'' : CmpOp} {r r' r'' : R2} (ho : OpR X (compareOp op) r) (ho' : OpR X (compareOp op') r') (ho'' : OpR X (compareOp op'') r'') (ha : PE X a ta) (hb : PE X b tb) (hc : PE X c tc) (hd : PE X d td)
    (hm : lastMarks [op, op', op''] [b, c, d] = false := by with_unfolding_all rfl) : PE X (.Compare a [op, op', op''] [b, c, d] pos) (tChain3 r r' r'' ta tb tc td) := by
  intro pins s σ H Q I h
  refine Compare_chain (thn (ha pins s σ H _ I h) fun v s1 ⟨x, H1, I1, r1, q1⟩ => chain_link (thn (hb pins s1 σ H1 _ I1 q1) fun u s2 ⟨y, H2, I2, r2, q2⟩ =>
    thn (ho pins s2 σ H2 x y v u _ I2 r1 r2 q2) fun d s3 ⟨z, H3, I3, r3, k, e, q3⟩ => ?_)) hm
  subst e
  cases r3
  refine wpAny_truthy_bool ?_
  cases k with
  | false => exact ite_ff ⟨.bl false, H3, I3, rfl, q3⟩
  | true =>
    refine ite_tt (chain_link (thn (hc pins s3 σ H3 _ I3 q3) fun w' s4 ⟨z', H4, I4, r4, q4⟩ => thn (ho' pins s4 σ H4 y z' u w' _ I4 r2 r4 q4) fun d' s5 ⟨z2, H5, I5, r5, k2, e2, q5⟩ => ?_))
    subst e2
    cases r5
    refine wpAny_truthy_bool ?_
    cases k2 with
    | false => exact ite_ff ⟨.bl false, H5, I5, rfl, q5⟩
    | true => exact ite_tt (chain_last (thn (hd pins s5 σ H5 _ I5 q5) fun w2 s6 ⟨z3, H6, I6, r6, q6⟩ => ho'' pins s6 σ H6 z' z3 w' w2 Q I6 r4 r6 q6))

theorem call_isinst : CallR X (.builtin "isinstance") (fun xs H Q => ∃ x c t b, xs = [x, .ty c] ∧ TyOf X.K H x t ∧ PySem.W.kitOne X.K t (.type c) = some b ∧ Q (.bl b) H) := by
  intro pins s σ H xs us Q I r h
  obtain ⟨x, c, t, b, rfl, ty, e, q⟩ := h
  cases r with
  | cons r rr =>
    cases rr with
    | cons r' rr =>
      cases rr
      cases r'
      exact isinst_ok I r ty e fun tk => ⟨.bl b, H, I.tok tk, rfl, q⟩

end
end L2

set_option Elab.async false
set_option linter.all false
set_option maxRecDepth 100000
set_option maxHeartbeats 4000000
namespace L2
open PySem PySem.Spec PyProof.Rows

def over (H N : Hp) : Hp := fun b => match N b with | some o => some o | none => H b
theorem over_new {H N : Hp} {b : Addr} {o : HO} (h : N b = some o) : over H N b = some o := by unfold over; rw [h]
theorem over_old {H N : Hp} {b : Addr} (h : N b = none) : over H N b = H b := by unfold over; rw [h]
section
variable {X : Cx} {pins : List (Addr × Obj)} {σ : St} {H N : Hp} {s : Shared} {h' : Heap} {t' : Nat}
theorem Inv.laidMany (I : Inv X pins σ H s) (k : ∀ b u, s.heap.get? b = some u → h'.get? b = some u) (hN : ∀ b o, N b = some o → s.heap.objs.size ≤ b)
    (new : ∀ b o, N b = some o → ObjOk X.prog X.w (over H N) h' b o) : Inv X pins σ (over H N) { s with heap := h', toks := t' } := by
  have lt : ∀ b u, H b = some u → b < s.heap.objs.size := fun b u e => by
    rcases Nat.lt_or_ge b s.heap.objs.size with z | z
    · exact z
    · rw [I.hok.fresh z] at e; cases e
  have no : ∀ b, b < s.heap.objs.size → N b = none := fun b hb => by
    cases q : N b with
    | none => rfl
    | some o => exact absurd (hN b o q) (by omega)
  have sm : ∀ b u, H b = some u → over H N b = some u := fun b u e => by rw [over_old (no b (lt b u e))]; exact e
  refine I.un ⟨fun b u q _ _ _ => k b u q, fun b u q _ _ _ => ⟨u.slots, k b u q⟩, fun b u q n _ => by rw [over_old (no b (Heap.lt_size q))]; exact n, fun b u q _ => ⟨u, k b u q⟩,
    fun b xs q => sm b _ q, fun b u xs q => sm b _ q, fun b ps q => ⟨#[], by rw [sm b _ q]; simp⟩⟩ fun b u e => ?_
  cases q : N b with
  | some o =>
    have e' : u = o := Option.some.inj (e.symm.trans (over_new q))
    subst e'
    exact new b u q
  | none =>
    rw [over_old q] at e
    exact (I.hok b u e).stay (fun c v _ r => k c v r) (fun c r => sm c _ r) fun c xs r => sm c _ r
end

abbrev EnO (h : Heap) (e it : Addr) (f0 : Value) (f1 : Bool) (i : Int) (old : Value) : Prop :=
  h.get? e = some { cls := .type "enumerate", dict := none, data := .fields #[f0, .bool f1, .ref it, rawInt i, .none, old], slots := #[] }
/-- the enumerate object at e: its tuple is free, or was handed out and still stands -/
def EnSt (h : Heap) (e it : Addr) (i : Int) : Prop := (∃ old, IsEnum h e it i old) ∨ ∃ (a : Addr) (o : Obj) (f1 : Bool) (old : Value), EnO h e it (rawInt a) f1 i old ∧ h.get? a = some o ∧ a ≠ e ∧ a ≠ it
section
variable {prog : Program} {w : World} {A : Around} {E : Value → Shared → Prop} {s : Shared}
theorem EnSt.obj {h : Heap} {e it : Addr} {i : Int} (x : EnSt h e it i) : ∃ o, h.get? e = some o ∧ o.cls = .type "enumerate" := by
  rcases x with ⟨old, x⟩ | ⟨a, o, f1, old, x, _⟩
  · exact ⟨_, x, rfl⟩
  · exact ⟨_, x, rfl⟩
theorem en_next {e it l : Addr} {i : Nat} {items : Array Value} {x : Value} {Q : Option Value → Shared → Prop}
    (he : EnSt s.heap e it i) (hit : s.heap.IsListIter it l i) (hl : s.heap.IsList l items) (hx : items[i]? = some x) (hne : e ≠ it)
    (hQ : ∀ h', EnSt h' e it ((i : Int) + 1) → h'.IsListIter it l (i + 1) →
      h'.get? s.heap.objs.size = some { cls := .type "tuple", data := .seq #[.int i s.toks, x] } → h'.objs.size = s.heap.objs.size + 1 →
      (∀ b o, b ≠ e → b ≠ it → s.heap.get? b = some o → h'.get? b = some o) → Q (some (.ref s.heap.objs.size)) { s with heap := h', toks := s.toks + 1 }) :
    wpAny (model prog w) A (pyNext (.ref e)) Q E s := by
  rcases he with ⟨old, he⟩ | ⟨a, oa, f1, old, he, ha, hae, hai⟩
  · have hel : e < s.heap.objs.size := Heap.lt_size he
    have hil : it < s.heap.objs.size := by obtain ⟨_, q, _⟩ := hit; exact Heap.lt_size q
    refine wpAny_pyNext_enum_item he hit hl hx hne fun h' ho hit' hT hsz hk => hQ h' (.inr ⟨s.heap.objs.size, _, false, x, ho, hT, Nat.ne_of_gt hel, Nat.ne_of_gt hil⟩) hit' hT hsz hk
  · have hT : s.TypeIs (.ref e) "enumerate" := ⟨_, he, rfl⟩
    unfold pyNext
    refine wpAny_bind (wpAny_attempt (wpAny_callSpecial?_slot (name := Str.ofString "__next__") hT F.slot_enumerate_next
      (wpAny_call_entry F.slot_enumerate_next hT F.entry_enumerate_next ?_ (F.args_enumerate_next_1 _))))
    obtain ⟨hp, g, d, tk, os⟩ := s
    show wpAny _ _ (field (.ref e) 2 >>= _) _ _ _
    refine wpAny_bind (wpAny_field he rfl (x := .ref it) rfl ?_)
    refine wpAny_bind (wpAny_nextOf_list_item hit hl hx fun h₁ hit₁ hs₁ => ?_)
    replace hs₁ : Heap.SameBut it hp h₁ := hs₁
    have he₁ : EnO h₁ e it (rawInt a) f1 i old := (hs₁.2 e hne).trans he
    show wpAny _ _ (field (.ref e) 3 >>= _) _ _ ⟨h₁, g, d, tk, os⟩
    refine wpAny_bind (wpAny_field he₁ rfl (x := rawInt i) rfl ?_)
    show wpAny _ _ (field (.ref e) 4 >>= _) _ _ ⟨h₁, g, d, tk, os⟩
    refine wpAny_bind (wpAny_field he₁ rfl (x := .none) rfl ?_)
    show wpAny _ _ (mkInt i >>= _) _ _ ⟨h₁, g, d, tk, os⟩
    refine wpAny_bind (wpAny_mkInt ?_)
    show wpAny _ _ (setField (.ref e) 3 (rawInt ((i : Int) + 1)) >>= _) _ _ ⟨h₁, g, d, tk + 1, os⟩
    refine wpAny_bind (wpAny_setField_rec he₁ (by simp) fun h₂ he₂ hs₂ => ?_)
    replace hs₂ : Heap.SameBut e h₁ h₂ := hs₂
    replace he₂ : EnO h₂ e it (rawInt a) f1 ((i : Int) + 1) old := he₂
    show wpAny _ _ (setField (.ref e) 4 .none >>= _) _ _ ⟨h₂, g, d, tk + 1, os⟩
    refine wpAny_bind (wpAny_setField_rec he₂ (by simp) fun h₃ he₃ hs₃ => ?_)
    replace hs₃ : Heap.SameBut e h₂ h₃ := hs₃
    replace he₃ : EnO h₃ e it (rawInt a) f1 ((i : Int) + 1) old := he₃
    show wpAny _ _ (newTuple [.int i tk, x] >>= _) _ _ ⟨h₃, g, d, tk + 1, os⟩
    refine wpAny_bind (wpAny_newTuple ?_)
    have he₄ : EnO (h₃.push { cls := .type "tuple", data := .seq #[.int i tk, x] }) e it (rawInt a) f1 ((i : Int) + 1) old := Heap.get?_push_of_some _ he₃
    generalize hh₄ : h₃.push { cls := .type "tuple", data := .seq #[.int i tk, x] } = h₄ at he₄
    have hsz : h₃.objs.size = hp.objs.size := by rw [hs₃.1, hs₂.1, hs₁.1]
    have hel : e < hp.objs.size := Heap.lt_size he
    have ht₄ : h₄.get? hp.objs.size = some { cls := .type "tuple", data := .seq #[.int i tk, x] } := by rw [← hh₄, ← hsz]; exact Heap.get?_push_size _ rfl
    have hz₄ : h₄.objs.size = hp.objs.size + 1 := by rw [← hh₄, Heap.size_push, hsz]
    have hk₄ : ∀ b o, b ≠ e → b ≠ it → hp.get? b = some o → h₄.get? b = some o := fun b o hbe hbi hb => by
      rw [← hh₄]; exact Heap.get?_push_of_some _ (hs₃.extBut b o hbe (hs₂.extBut b o hbe (hs₁.extBut b o hbi hb)))
    have hit₄ : h₄.IsListIter it l (i + 1) := by
      rw [← hh₄]; obtain ⟨o, ho, r⟩ := (hit₁.extBut hs₂.extBut (Ne.symm hne)).extBut hs₃.extBut (Ne.symm hne); exact ⟨o, Heap.get?_push_of_some _ ho, r⟩
    show wpAny _ _ (Builtin.SmallTypes.ownedTupleIsFree (.ref e) >>= _) _ _ ⟨h₄, g, d, tk + 1, os⟩
    rw [hsz]
    have ha₄ : h₄.get? a = some oa := hk₄ a oa hae hai ha
    refine wpAny_bind ?_
    unfold Builtin.SmallTypes.ownedTupleIsFree
    refine wpAny_bind (wpAny_field he₄ rfl (x := rawInt a) rfl ?_)
    show wpAny _ _ (loadIfAlive ((a : Int).toNat) >>= _) _ _ _
    rw [Int.toNat_natCast]
    refine wpAny_bind (PySem.W.kdx_alive ha₄ ?_)
    simp only [Option.isNone_some, Bool.false_eq_true, if_false]
    refine wpAny_bind (wpAny_field he₄ rfl (x := .bool f1) rfl ?_)
    have fin : ∀ h₅ : Heap, EnO h₅ e it (rawInt a) true ((i : Int) + 1) old → Heap.SameBut e h₄ h₅ → Q (some (.ref hp.objs.size)) ⟨h₅, g, d, tk + 1, os⟩ := fun h₅ he₅ hs₅ =>
      hQ h₅ (.inr ⟨a, oa, true, old, he₅, (hs₅.2 a hae).trans ha₄, hae, hai⟩) (hit₄.extBut hs₅.extBut (Ne.symm hne)) (hs₅.extBut _ _ (Nat.ne_of_gt hel) ht₄) (by show h₅.objs.size = hp.objs.size + 1; rw [hs₅.1, hz₄])
        fun b o hbe hbi hb => hs₅.extBut b o hbe (hk₄ b o hbe hbi hb)
    cases f1 with
    | true =>
      rw [if_neg (show ¬ ((Value.bool true != Value.bool true) = true) from Bool.false_ne_true)]
      refine wpAny_pure ?_
      simp only [Bool.false_eq_true, if_false]
      exact wpAny_pure ⟨_, rfl, wpAny_pure (fin h₄ he₄ (Heap.SameBut.refl _ _))⟩
    | false =>
      rw [if_pos (show (Value.bool false != Value.bool true) = true from rfl)]
      refine wpAny_bind (wpAny_setField_rec he₄ (by simp) fun h₅ he₅ hs₅ => ?_)
      replace hs₅ : Heap.SameBut e h₄ h₅ := hs₅
      replace he₅ : EnO h₅ e it (rawInt a) true ((i : Int) + 1) old := he₅
      refine wpAny_pure ?_
      simp only [Bool.false_eq_true, if_false]
      exact wpAny_pure ⟨_, rfl, wpAny_pure (fin h₅ he₅ hs₅)⟩
theorem en_end {e it l : Addr} {i : Nat} {items : Array Value} {Q : Option Value → Shared → Prop} (hh : A.handled = none)
    (he : EnSt s.heap e it i) (hit : s.heap.IsListIter it l i) (hl : s.heap.IsList l items) (hx : items[i]? = none)
    (hQ : ∀ h', Heap.ExtBut it s.heap h' → Q none { s with heap := h' }) : wpAny (model prog w) A (pyNext (.ref e)) Q E s := by
  have go : ∀ f0 f1 old, EnO s.heap e it f0 f1 i old → wpAny (model prog w) A (pyNext (.ref e)) Q E s := fun f0 f1 old he => by
    have hT : s.TypeIs (.ref e) "enumerate" := ⟨_, he, rfl⟩
    unfold pyNext
    refine wpAny_bind (wpAny_attempt (wpAny_callSpecial?_slot (name := Str.ofString "__next__") hT F.slot_enumerate_next
      (wpAny_call_entry F.slot_enumerate_next hT F.entry_enumerate_next ?_ (F.args_enumerate_next_1 _))))
    show wpAny _ _ (field (.ref e) 2 >>= _) _ _ _
    refine wpAny_bind (wpAny_field he rfl (x := .ref it) rfl ?_)
    refine wpAny_bind (wpAny_nextOf_list_end hh hit hl hx fun h' x he' hx' => ?_)
    obtain ⟨o, ho, hc⟩ := hx'
    refine wpAny_bind (wpAny_isInstance (T := "StopIteration") (b := true) ⟨o, ho, hc⟩ isSubtype_stop ?_)
    exact wpAny_pure (hQ _ he')
  rcases he with ⟨old, he⟩ | ⟨a, oa, f1, old, he, _⟩
  · exact go _ _ _ he
  · exact go _ _ _ he

/-- the tuples that stand in acc: the i-th at an address from base on -/
def Prs (base : Nat) (items acc : Array Value) (h : Heap) : Prop :=
  ∀ (j : Nat) (u : Value), acc[j]? = some u → ∃ (T : Addr) (t : Tok) (x : Value), u = .ref T ∧ base ≤ T ∧ items[j]? = some x ∧ h.get? T = some { cls := .type "tuple", data := .seq #[.int j t, x] }
theorem en_loop {R : Result → Shared → Prop} {e it l S : Addr} {items : Array Value} {base : Nat} (hh : A.handled = none) (hne : e ≠ it) (hSe : S ≠ e) (hSi : S ≠ it) (hle : l ≠ e) (hli : l ≠ it) (hlS : l ≠ S) (hbe : e < base) (hbi : it < base) (hbS : S < base) (hn : items.size ≤ sizeLine) (res : Value) :
    ∀ (k i : Nat) (s : Shared) (acc : Array Value) (c : Nat), items.size - i = k → i ≤ items.size → base ≤ s.heap.objs.size → EnSt s.heap e it i → s.heap.IsListIter it l i → s.heap.IsList l items →
    s.heap.get? S = some { cls := .type "list", dict := none, data := .seq acc c, slots := #[] } → acc.size = i → Prs base items acc s.heap →
    (∀ h' tk acc' c', (∀ b o, b ≠ S → b ≠ e → b ≠ it → s.heap.get? b = some o → h'.get? b = some o) → h'.get? S = some { cls := .type "list", dict := none, data := .seq acc' c', slots := #[] } → acc'.size = items.size → Prs base items acc' h' → R (.ok (.ret res)) { s with heap := h', toks := tk }) →
    codeAny (model prog w) A (.builtin "list.extend.loop" ⟨[.ref S, .ref e, res], []⟩) R s := by
  intro k
  induction k with
  | zero =>
    intro i s acc c hk hi hb he hit hl hS hac hp hR
    have hin : i = items.size := by omega
    refine codeAny_builtin F.entry_extend_loop ?_
    rw [Around.under_plainId F.plain_extend_loop _]
    show wpAny _ A.in1 (pyNext (.ref e) >>= _) _ _ s
    refine wpAny_bind (en_end hh he hit hl (Array.getElem?_eq_none (by omega)) fun h' hx => ?_)
    exact wpAny_pure (hR h' s.toks acc c (fun b o b1 b2 b3 q => hx b o b3 q) (hx S _ hSi hS) (by omega) fun j u q => by
      obtain ⟨T, t, x, e1, e2, e3, e4⟩ := hp j u q
      exact ⟨T, t, x, e1, e2, e3, hx T _ (Nat.ne_of_gt (Nat.lt_of_lt_of_le hbi e2)) e4⟩)
  | succ k ih =>
    intro i s acc c hk hi hb he hit hl hS hac hp hR
    have hlt : i < items.size := by omega
    have hx : items[i]? = some items[i] := Array.getElem?_eq_getElem hlt
    refine codeAny_builtin F.entry_extend_loop ?_
    rw [Around.under_plainId F.plain_extend_loop _]
    show wpAny _ A.in1 (pyNext (.ref e) >>= _) _ _ s
    refine wpAny_bind (en_next he hit hl hx hne fun h' he' hit' hT hsz hk' => ?_)
    have hS' : h'.get? S = some { cls := .type "list", dict := none, data := .seq acc c, slots := #[] } := hk' S _ hSe hSi hS
    show wpAny _ A.in1 (updateSeq S (·.push (.ref s.heap.objs.size)) >>= _) _ _ _
    refine wpAny_bind ?_
    have oth : ∀ b o, b ≠ S → h'.get? b = some o → (h'.update S (Obj.mapSeq (·.push (.ref s.heap.objs.size)))).get? b = some o := fun b o hb q => (Heap.get?_update_other _ _ (Ne.symm hb)).trans q
    have hszS : s.heap.objs.size ≠ S := Nat.ne_of_gt (Heap.lt_size hS)
    refine wpAny_updateSeq hS' rfl (wpAny_pure ⟨plainId_quiet F.plain_extend_loop _, ih (i + 1) _ (acc.push (.ref s.heap.objs.size)) _ (by omega) hlt ?_ ?_ ?_ ?_ (Heap.get?_update_self _ hS' rfl) (by rw [Array.size_push, hac]) ?_ ?_⟩)
      (by rw [hac]; omega) (by show (acc.push _).size ≤ sizeLine + 1; rw [Array.size_push, hac]; omega)
    · show base ≤ (h'.update S _).objs.size
      rw [Heap.size_update, hsz]; omega
    · rcases he' with ⟨old, q⟩ | ⟨a, oa, f1, old, q, q1, q2, q3⟩
      · exact .inl ⟨old, oth _ _ (Ne.symm hSe) q⟩
      · by_cases haS : a = S
        · subst haS
          exact .inr ⟨a, _, f1, old, oth _ _ (Ne.symm hSe) q, Heap.get?_update_self _ hS' rfl, q2, q3⟩
        · exact .inr ⟨a, oa, f1, old, oth _ _ (Ne.symm hSe) q, oth _ _ haS q1, q2, q3⟩
    · exact hit'.at fun o q => oth _ o (Ne.symm hSi) q
    · exact (hl.at fun o q => hk' l o hle hli q).at fun o q => oth _ o hlS q
    · intro j u q
      by_cases hj : j = acc.size
      · subst hj
        rw [Array.getElem?_push_size] at q
        have q' := Option.some.inj q
        subst q'
        exact ⟨s.heap.objs.size, s.toks, items[i], rfl, hb, by rw [hac]; exact hx, by rw [hac]; exact oth _ _ hszS hT⟩
      · rw [Array.getElem?_push, if_neg hj] at q
        obtain ⟨T, t, x, e1, e2, e3, e4⟩ := hp j u q
        have hTl := Heap.lt_size e4
        exact ⟨T, t, x, e1, e2, e3, oth _ _ (Nat.ne_of_gt (Nat.lt_of_lt_of_le hbS e2)) (hk' T _ (Nat.ne_of_gt (Nat.lt_of_lt_of_le hbe e2)) (Nat.ne_of_gt (Nat.lt_of_lt_of_le hbi e2)) e4)⟩
    · intro h'' tk acc' c' hk'' hS'' hsz'' hp''
      exact hR h'' tk acc' c' (fun b o b1 b2 b3 q => hk'' b o b1 b2 b3 (oth b o b1 (hk' b o b2 b3 q))) hS'' hsz'' hp''
end
end L2
namespace L2
open PySem PySem.Spec PyProof.Rows
section
variable {prog : Program} {w : World} {A : Around} {E : Value → Shared → Prop} {s : Shared}
/-- list(e) of an iterator of the built-in class T that tells no length -/
theorem call_list_it {Q : Value → Shared → Prop} {T : String} {e : Addr} (t1 : (Value.type T == Value.type "list") = false) (t2 : (Value.type T == Value.type "tuple") = false)
    (nl : typeLookup (.type T) "__len__" = pure none) (nh : typeLookup (.type T) "__length_hint__" = pure none) (hel : e < s.heap.objs.size)
    (hT : ∀ (s2 : Shared), (∀ b o, b ≠ s.heap.objs.size → s.heap.get? b = some o → s2.heap.get? b = some o) → s2.TypeIs (.ref e) T)
    (hI : ∀ (s2 : Shared) (A2 : Around) (E2 : Value → Shared → Prop) (Q2 : Value → Shared → Prop), (∀ b o, b ≠ s.heap.objs.size → s.heap.get? b = some o → s2.heap.get? b = some o) → Q2 (.ref e) s2 → wpAny (model prog w) A2 (pyIter (.ref e)) Q2 E2 s2)
    (hloop : ∀ (h2 : Heap) (c : Nat), (∀ b o, b ≠ s.heap.objs.size → s.heap.get? b = some o → h2.get? b = some o) → h2.objs.size = s.heap.objs.size + 1 →
      h2.get? s.heap.objs.size = some { cls := .type "list", dict := none, data := .seq #[] c, slots := #[] } →
      codeAny (model prog w) A.in1 (.builtin "list.extend.loop" ⟨[.ref s.heap.objs.size, .ref e, .none], []⟩) (wants (fun r s₂ => r = .none ∧ Q (.ref s.heap.objs.size) s₂) E) { s with heap := h2 }) :
    wpAny (model prog w) A (call (.type "list") [.ref e]) Q E s := by
  refine callType_codes (Q₁ := fun obj s₁ => obj = .ref s.heap.objs.size ∧ s₁ = { s with heap := s.heap.push { cls := .type "list", data := .seq #[] } }) F.called_list (F.typeCall_list_1 _) F.entry_list_init
    (code_list_new _ ⟨rfl, rfl⟩) fun obj s₁ h₁ => ?_
  obtain ⟨rfl, rfl⟩ := h₁
  have hS : (s.heap.push { cls := .type "list", data := .seq #[] }).get? s.heap.objs.size = some { cls := .type "list", data := .seq #[] } := Heap.get?_push_size _ rfl
  refine ⟨⟨_, hS, rfl⟩, F.args_list_init_2 _ _, ?_⟩
  generalize hSS : s.heap.objs.size = S at *
  show wpAny _ _ (do let old ← Builtin.List.listItems (.ref S); Builtin.List.listUpdate (.ref S) (fun _ => #[]); letGo old.toList.reverse; Builtin.List.listExtendWith (.ref S) (.ref e) .none) _ _ _
  have hSe : S ≠ e := Nat.ne_of_gt hel
  refine wpAny_bind ?_
  unfold Builtin.List.listItems
  refine wpAny_bind (wpAny_seqItems hS rfl (wpAny_pure ?_))
  show wpAny _ _ (updateSeq S (fun _ => #[]) >>= fun _ => letGo (#[] : Array Value).toList.reverse >>= fun _ => Builtin.List.listExtendWith (.ref S) (.ref e) .none) _ _ _
  refine wpAny_bind (wpAny_updateSeq hS rfl ?_)
  have hS₂ := Heap.get?_update_self (Obj.mapSeq (fun _ => (#[] : Array Value))) hS rfl
  have oth : ∀ b o, b ≠ S → s.heap.get? b = some o → ((s.heap.push { cls := .type "list", data := .seq #[] }).update S (Obj.mapSeq (fun _ => (#[] : Array Value)))).get? b = some o :=
    fun b o hb q => (Heap.get?_update_other _ _ (Ne.symm hb)).trans (Heap.get?_push_of_some _ q)
  have hz2 : ((s.heap.push { cls := .type "list", data := .seq #[] }).update S (Obj.mapSeq (fun _ => (#[] : Array Value)))).objs.size = S + 1 := by rw [Heap.size_update, Heap.size_push, hSS]
  refine wpAny_bind (wpAny_letGo ?_)
  generalize (s.heap.push { cls := .type "list", data := .seq #[] }).update S (Obj.mapSeq (fun _ => (#[] : Array Value))) = h2 at *
  have hT2 : Shared.TypeIs { s with heap := h2 } (.ref e) T := hT _ oth
  unfold Builtin.List.listExtendWith
  refine wpAny_bind (wpAny_typeOf hT2 ?_)
  have h1 : Builtin.List.listSameRef (.ref S) (.ref e) = false := by simp [Builtin.List.listSameRef, hSe]
  simp only [h1, t1, t2, Bool.or_false, Bool.false_eq_true, if_false]
  refine wpAny_bind (hI _ _ _ _ oth ?_)
  refine wpAny_bind (wpAny_holding ?_)
  unfold Builtin.List.listLengthHint
  refine wpAny_bind (wpAny_specialOf hT2 nl ?_)
  show wpAny _ _ (specialOf (Value.ref e) (Str.ofString "__length_hint__") >>= _) _ _ _
  refine wpAny_bind (wpAny_specialOf hT2 nh ?_)
  refine wpAny_pure ?_
  show wpAny _ _ (rule "list.extend.makes-room" >>= fun _ => Builtin.List.listTouch (.ref S) >>= fun _ =>
    again (.builtin "list.extend.loop" ⟨[.ref S, .ref e, .none], []⟩)) _ _ _
  refine wpAny_bind (wpAny_rule ?_)
  refine wpAny_bind ?_
  show wpAny _ _ (updateSeq S (·.push .none) >>= fun _ => updateSeq S (·.pop)) _ _ _
  refine wpAny_bind (wpAny_updateSeq hS₂ rfl ?_)
  have hS₃ := Heap.get?_update_self (Obj.mapSeq (·.push Value.none)) hS₂ rfl
  refine wpAny_updateSeq (hz := by seq_fits) hS₃ rfl ?_
  have hS₄ := Heap.get?_update_self (Obj.mapSeq (·.pop)) hS₃ rfl
  refine wpAny_pure ⟨plainId_quiet F.plain_extend_loop _, hloop _ _ (fun b o hb q => (Heap.get?_update_other _ _ (Ne.symm hb)).trans ((Heap.get?_update_other _ _ (Ne.symm hb)).trans (oth b o hb q))) (by rw [Heap.size_update, Heap.size_update, hz2]) hS₄⟩

namespace FF
theorem enum_no_len : typeLookup (.type "enumerate") "__len__" = pure none := by rw [typeLookup_type, builtinLookup_eq_fast]; kernel_rfl
theorem enum_no_hint : typeLookup (.type "enumerate") "__length_hint__" = pure none := by rw [typeLookup_type, builtinLookup_eq_fast]; kernel_rfl
theorem zip_no_len : typeLookup (.type "zip") "__len__" = pure none := by rw [typeLookup_type, builtinLookup_eq_fast]; kernel_rfl
theorem zip_no_hint : typeLookup (.type "zip") "__length_hint__" = pure none := by rw [typeLookup_type, builtinLookup_eq_fast]; kernel_rfl
end FF
theorem call_list_en {Q : Value → Shared → Prop} {e it l : Addr} {items : Array Value} (hh : A.handled = none) (he : IsEnum s.heap e it 0 .none) (hit : s.heap.IsListIter it l 0) (hl : s.heap.IsList l items) (hne : e ≠ it) (hle : l ≠ e) (hli : l ≠ it) (hn : items.size ≤ sizeLine)
    (hQ : ∀ h' tk acc' c', (∀ b o, b ≠ e → b ≠ it → s.heap.get? b = some o → h'.get? b = some o) →
      h'.get? s.heap.objs.size = some { cls := .type "list", dict := none, data := .seq acc' c', slots := #[] } → acc'.size = items.size → Prs (s.heap.objs.size + 1) items acc' h' → Q (.ref s.heap.objs.size) { s with heap := h', toks := tk }) :
    wpAny (model prog w) A (call (.type "list") [.ref e]) Q E s := by
  have hel : e < s.heap.objs.size := Heap.lt_size he
  have hil : it < s.heap.objs.size := by obtain ⟨_, q, _⟩ := hit; exact Heap.lt_size q
  have hll : l < s.heap.objs.size := by obtain ⟨_, q, _⟩ := hl; exact Heap.lt_size q
  refine call_list_it (T := "enumerate") (by decide) (by decide) FF.enum_no_len FF.enum_no_hint hel (fun s2 k => ⟨_, k e _ (Nat.ne_of_lt hel) he, rfl⟩) (fun s2 A2 E2 Q2 k q => wpAny_pyIter_enum (k e _ (Nat.ne_of_lt hel) he) q) fun h2 c k hz hS => ?_
  refine en_loop (A := A.in1) (base := s.heap.objs.size + 1) (items := items) (l := l) hh hne (Nat.ne_of_gt hel) (Nat.ne_of_gt hil) hle hli (Nat.ne_of_lt hll) (Nat.lt_succ_of_lt hel) (Nat.lt_succ_of_lt hil) (Nat.lt_succ_self _) hn .none _ 0 { s with heap := h2 } #[] c rfl (Nat.zero_le _) (by show _ ≤ h2.objs.size; omega)
    (.inl ⟨.none, k e _ (Nat.ne_of_lt hel) he⟩) (hit.at fun o q => k it o (Nat.ne_of_lt hil) q) (hl.at fun o q => k l o (Nat.ne_of_lt hll) q) hS rfl (fun j u q => by simp at q) fun h' tk acc' c' k' hS' hz' hp => ?_
  exact ⟨rfl, hQ h' tk acc' c' (fun b o b1 b2 q => k' b o (Nat.ne_of_lt (Heap.lt_size q)) b1 b2 (k b o (Nat.ne_of_lt (Heap.lt_size q)) q)) hS' hz' hp⟩
end
end L2
namespace L2
open PySem PySem.Spec PyProof.Rows
/-- the addresses that a list of references holds -/
def adrs (acc : Array Value) : List Addr := acc.toList.map fun v => match v with | .ref a => a | _ => 0
/-- new tuples at ts and a list of them at S: the abstract objects -/
noncomputable def newPrs (S : Addr) (ts : List Addr) (f : Nat → HO) : Hp := fun b => if b = S then some (.lst (ts.map V.ref)) else if b ∈ ts then some (f (ts.idxOf b)) else none
theorem idx_at {ts : List Addr} {b : Addr} (h : b ∈ ts) : ts[ts.idxOf b]? = some b := by
  induction ts with
  | nil => cases h
  | cons c r ih =>
    by_cases e : c = b
    · subst e
      simp [List.idxOf_cons]
    · have h' : b ∈ r := by
        rcases List.mem_cons.mp h with z | z
        · exact absurd z.symm e
        · exact z
      have e' : (c == b) = false := beq_eq_false_iff_ne.mpr e
      rw [List.idxOf_cons, e']
      simpa using ih h'
section
variable {X : Cx} {pins : List (Addr × Obj)} {σ : St} {H : Hp} {s : Shared}
/-- the whole step, for tuples: S the list, ts its tuples; the j-th holds f j -/
theorem Inv.newPairs {h' : Heap} {t' : Nat} {S : Addr} {acc : Array Value} {c : Nat} {f : Nat → List V} (I : Inv X pins σ H s) (k : ∀ b u, s.heap.get? b = some u → h'.get? b = some u) (hS : s.heap.objs.size ≤ S)
    (e : h'.get? S = some { cls := .type "list", dict := none, data := .seq acc c, slots := #[] }) (hz : acc.size ≤ sizeLine)
    (hp : ∀ (j : Nat) (u : Value), acc[j]? = some u → ∃ (T : Addr) (us : List Value), u = .ref T ∧ S < T ∧ Vals (f j) us ∧ us.length ≤ 2 ∧ h'.get? T = some { cls := .type "tuple", data := .seq us.toArray })
    (inj : ∀ (i j : Nat) (T : Addr), acc[i]? = some (.ref T) → acc[j]? = some (.ref T) → i = j) :
    ∃ (H' : Hp) (ts : List Addr), Inv X pins σ H' { s with heap := h', toks := t' } ∧ Same H H' ∧ H S = none ∧ H' S = some (.lst (ts.map V.ref)) ∧ ts.length = acc.size ∧ (∀ t ∈ ts, H t = none) ∧ ∀ (j : Nat) (t : Addr), ts[j]? = some t → H' t = some (.tup (f j)) := by
  have at1 : ∀ (j : Nat) (t : Addr), (adrs acc)[j]? = some t → acc[j]? = some (.ref t) := fun j t q => by
    unfold adrs at q
    rw [List.getElem?_map, Array.getElem?_toList] at q
    cases q' : acc[j]? with
    | none => rw [q'] at q; cases q
    | some u =>
      obtain ⟨T, us, rfl, _⟩ := hp j u q'
      rw [q'] at q
      have z := Option.some.inj q
      have z' : T = t := z
      rw [z']
  have mem : ∀ t, t ∈ adrs acc → ∃ us, S < t ∧ Vals (f ((adrs acc).idxOf t)) us ∧ us.length ≤ 2 ∧ h'.get? t = some { cls := .type "tuple", data := .seq us.toArray } := fun t ht => by
    obtain ⟨T, us, e1, r⟩ := hp _ _ (at1 _ _ (idx_at ht))
    cases e1
    exact ⟨us, r⟩
  have fr : ∀ b, s.heap.objs.size ≤ b → H b = none := fun b hb => I.hok.fresh hb
  have neS : ∀ t, t ∈ adrs acc → t ≠ S := fun t ht => by
    obtain ⟨us, h1, _⟩ := mem t ht
    exact Nat.ne_of_gt h1
  have nS : newPrs S (adrs acc) (fun j => .tup (f j)) S = some (.lst ((adrs acc).map V.ref)) := if_pos rfl
  have nT : ∀ t, t ∈ adrs acc → newPrs S (adrs acc) (fun j => .tup (f j)) t = some (.tup (f ((adrs acc).idxOf t))) := fun t ht => by
    unfold newPrs
    rw [if_neg (neS t ht), if_pos ht]
  have vr : Vals ((adrs acc).map V.ref) acc.toList := by
    have go : ∀ (l : List Value), (∀ u ∈ l, ∃ T, u = Value.ref T) → Vals ((l.map fun v => match v with | .ref a => a | _ => 0).map V.ref) l := by
      intro l
      induction l with
      | nil => intro _; exact .nil
      | cons u r ih =>
        intro h
        obtain ⟨T, rfl⟩ := h u List.mem_cons_self
        exact .cons rfl (ih fun v hv => h v (List.mem_cons_of_mem _ hv))
    refine go acc.toList fun u hu => ?_
    obtain ⟨j, hj⟩ := List.getElem?_of_mem hu
    rw [Array.getElem?_toList] at hj
    obtain ⟨T, us, e1, _⟩ := hp j u hj
    exact ⟨T, e1⟩
  refine ⟨over H (newPrs S (adrs acc) fun j => .tup (f j)), adrs acc, I.laidMany k (fun b o q => ?_) (fun b o q => ?_), fun b o q => ?_, fr S hS, over_new nS, ?_, fun t ht => ?_, fun j t q => ?_⟩
  · by_cases hb : b = S
    · rw [hb]; exact hS
    · by_cases hm : b ∈ adrs acc
      · obtain ⟨us, h1, _⟩ := mem b hm
        exact Nat.le_trans hS (Nat.le_of_lt h1)
      · unfold newPrs at q
        rw [if_neg hb, if_neg hm] at q
        cases q
  · by_cases hb : b = S
    · subst hb
      rw [nS] at q
      cases q
      exact ⟨by rw [List.length_map]; unfold adrs; rw [List.length_map, Array.length_toList]; exact hz, acc.toList, c, vr, by simpa using e⟩
    · by_cases hm : b ∈ adrs acc
      · rw [nT b hm] at q
        cases q
        obtain ⟨us, h1, h2, h3, h4⟩ := mem b hm
        exact ⟨by rw [h2.length]; exact Nat.le_trans h3 (by decide), us, h2, ⟨_, h4, rfl, _, rfl⟩⟩
      · unfold newPrs at q
        rw [if_neg hb, if_neg hm] at q
        cases q
  · cases q' : newPrs S (adrs acc) (fun j => .tup (f j)) b with
    | none => rw [over_old q']; exact SamO.of q
    | some o' =>
      exfalso
      have hb : s.heap.objs.size ≤ b := by
        by_cases hb : b = S
        · rw [hb]; exact hS
        · by_cases hm : b ∈ adrs acc
          · obtain ⟨us, h1, _⟩ := mem b hm
            exact Nat.le_trans hS (Nat.le_of_lt h1)
          · unfold newPrs at q'
            rw [if_neg hb, if_neg hm] at q'
            cases q'
      rw [fr b hb] at q
      cases q
  · unfold adrs; rw [List.length_map, Array.length_toList]
  · obtain ⟨us, h1, _⟩ := mem t ht
    exact fr t (Nat.le_trans hS (Nat.le_of_lt h1))
  · have hm : t ∈ adrs acc := List.mem_of_getElem? q
    have ei : (adrs acc).idxOf t = j := inj _ _ t (at1 _ _ (idx_at hm)) (at1 _ _ q)
    rw [over_new (nT t hm), ei]
end

/-- list(enumerate(e)): a new list of new pairs -/
def tListEnum (K : PySem.W.Frag) (ta : TA) : TE := fun σ H Q => ta σ H fun vs H1 => ∃ a xs, vs = [.ref a] ∧ SqL K H1 a xs ∧ ∀ (H' : Hp) (l : Addr) (ts : List Addr), Same H1 H' → H1 l = none → H' l = some (.lst (ts.map V.ref)) → ts.length = xs.length →
  (∀ t ∈ ts, H1 t = none) → (∀ (j : Nat) (t : Addr), ts[j]? = some t → H' t = some (.tup [.int (j : Nat), xs.getD j .non])) → Q (.ref l) H'
theorem boot_list_ty : bootBuiltins "list" = some (.type "list") := by decide +kernel
theorem pe_list_enum {X : Cx} {e : Expr} {ta : TA} {p p' pos pos' : Pos} (hc : X.calm = true) (hg : Gl X "list") (hm : X.mg "list" = none) (hg' : Gl X "enumerate") (hm' : X.mg "enumerate" = none) (ha : PA X [e] ta) (hs : starEach [e] X.env = [(false, eval e X.env)] := by rfl)
    (hs2 : starEach [.Call (.Name "enumerate" p') [e] [] pos'] X.env = [(false, eval (.Call (.Name "enumerate" p') [e] [] pos') X.env)] := by rfl) :
    PE X (.Call (.Name "list" p) [.Call (.Name "enumerate" p') [e] [] pos'] [] pos) (tListEnum X.K ta) := by
  intro pins s σ H Q I h
  refine Call_ (ld_blt I hg hm boot_list_ty (PyProof.Rows.callWith_type1 ?_ hs2 rfl))
  rw [hs2]
  show wpAny _ _ (spliced ((false, eval (.Call (.Name "enumerate" p') [e] [] pos') X.env) :: backTo pos (starEach [] X.env))) _ _ s
  refine Calls.spliced_cons ?_
  refine Call_ (ld_blt I hg' hm' boot_enumerate (PyProof.Rows.callWith_type1 (thn (ha pos' pins s σ H _ I h) fun us s1 ⟨vs, H1, I1, r1, q1⟩ => ?_) hs rfl))
  obtain ⟨a, xs, ex, hq, q⟩ := q1
  subst ex
  cases r1 with
  | cons r rr =>
    cases rr
    cases r
    obtain ⟨its, rv, p', hz⟩ := I1.list hq
    have hal : a < s1.heap.objs.size := by obtain ⟨_, z, _⟩ := p'.isList; exact Heap.lt_size z
    have hlen := rv.length
    refine call_enumerate_list p'.isList fun h' he hit hsz hk => Calls.spliced_nil ?_
    refine call_list_en (s := { s1 with heap := h' }) (items := its.toArray) (I1.ok.hd hc) he hit (p'.isList.at fun o z => hk a o z) (Nat.succ_ne_self _) (Nat.ne_of_lt (Nat.lt_succ_of_lt hal)) (Nat.ne_of_lt hal) (by rw [List.size_toArray]; omega) fun h'' tk acc c k2 hS hsz2 hp => ?_
    have hS1 : s1.heap.objs.size ≤ h'.objs.size := by rw [hsz]; exact Nat.le_add_right _ _
    obtain ⟨H', ts, I', sm, nl, hl', tl, fr, ct⟩ := I1.newPairs (t' := tk) (h' := h'') (S := h'.objs.size) (acc := acc) (f := fun j => [.int (j : Nat), xs.getD j .non])
      (fun b u z => k2 b u (Nat.ne_of_lt (Nat.lt_succ_of_lt (Heap.lt_size z))) (Nat.ne_of_lt (Heap.lt_size z)) (hk b u z)) hS1 hS (by rw [hsz2, List.size_toArray]; omega)
      (fun j u z => by
        obtain ⟨T, t, x, e1, e2, e3, e4⟩ := hp j u z
        rw [List.getElem?_toArray] at e3
        have hjl : j < xs.length := by rw [hlen]; exact (List.getElem?_eq_some_iff.mp e3).1
        refine ⟨T, [.int j t, x], e1, e2, .cons ⟨t, rfl⟩ (.cons ?_ .nil), Nat.le_refl _, e4⟩
        obtain ⟨y, ey, ry⟩ := rv.get (x := xs[j]) (i := j) (by simp [hjl])
        rw [e3] at ey
        cases ey
        simpa [hjl] using ry)
      (fun i j T z1 z2 => by
        obtain ⟨T1, t1, x1, a1, a2, a3, a4⟩ := hp i _ z1
        obtain ⟨T2, t2, x2, b1, b2, b3, b4⟩ := hp j _ z2
        cases a1
        cases b1
        rw [a4] at b4
        have z := Option.some.inj b4
        injection z with _ _ z _
        injection z with z _
        have z := congrArg (fun w => w[0]?) z
        simp at z
        exact Int.ofNat.inj z.1)
    exact ⟨.ref h'.objs.size, H', I', rfl, q H' h'.objs.size ts sm nl hl' (by rw [tl, hsz2, List.size_toArray, hlen]) fr ct⟩
end L2

set_option Elab.async false
set_option linter.all false
set_option maxRecDepth 100000
set_option maxHeartbeats 4000000
namespace L2
open PySem PySem.Spec PyProof.Rows
def Fn (P : Program) (w : World) (K : PySem.W.Frag) (mg : Str → Option Value) (base : Heap) (k : Nat) (x : Str) (ps : List Str) (sp : Sp) : Prop :=
  ∃ (f : Addr) (fd : FuncData), mg x = some (.ref f) ∧ PySem.W.keepIn K (.ref f) = true ∧ Binds K fd ps [] ∧ FnOk P w K mg base CX0 k f fd ps sp
/-- where a def stands -/
def DefAt (K : PySem.W.Frag) (mg : Str → Option Value) (x : Str) (st : Stmt) (ps : List Str) : Prop :=
  ∃ (f : Addr) (fd : FuncData), mg x = some (.ref f) ∧ Fun K x x st f fd ∧ Binds K fd ps []
section
variable {P : Program} {w : World} {K : PySem.W.Frag} {mg : Str → Option Value} {base : Heap}
theorem DefAt.fn {x : Str} {st : Stmt} {N ps : List Str} {k : Nat} {sp : Sp} (D : DefAt K mg x st ps) (S : FnScope N ps (defScope st)) (len : ∀ vs H Q E, sp vs H Q E → vs.length = ps.length)
    (hbody : ∀ (f : Addr) (cdv : Value) (A : Around) (outer : List Env) (s : Shared) (H : Hp) (vs : List V) (Q : VK) (E : XK), Room k (A.deeper (envOfC x (defScope st) s.heap.objs.size f cdv)) → sp vs H Q E →
      ∃ t, PSs (cxOf CX0 P w K mg base N x (defScope st) f cdv A outer s H E).nox (defBody st) t ∧ t { nx := fun _ H' => Q .non H', rt := Q } (start N vs) H) : Fn P w K mg base (k + 1) x ps sp := by
  obtain ⟨f, fd, hm, F, b⟩ := D
  exact ⟨f, fd, hm, F.kp, b, F.ok S len fun cdv A outer s H vs Q E hr h => hbody f cdv A outer s H vs Q E hr h⟩
theorem defAt_mk {h : Heap} (X : K.In h) (G : h.Ns mainGlobals mg) {x : Str} {st : Stmt} {ps : List Str} {f : Addr} {oc : Value} {od an : Option Addr} {osl : Array (Option Value)} {kV doc pm cdv ct : Value}
    (a : PySem.W.nsIn K mainGlobals x = some (some (.ref f))) (l : K.lookup f = some ⟨oc, od, .func (PySem.W.fnOf x x (defArgs st) (defBody st) (defScope st) .none kV doc pm an cdv ct), osl⟩)
    (c : PySem.W.codeIn K cdv x = true) (k : PySem.W.keepIn K (.ref f) = true)
    (hb : ∀ (kV doc pm : Value) (an : Option Addr) (cdv ct : Value) (us : List Value), us.length = ps.length → bindArgs (PySem.W.fnOf x x (defArgs st) (defBody st) (defScope st) .none kV doc pm an cdv ct) ⟨us, []⟩ = pure (ps.zip us)) : DefAt K mg x st ps :=
  have F := fun_mk (st := st) l c k
  ⟨f, _, PySem.W.mg_of X G a, F, F.binds hb⟩
end
/-- a call of a def of the text -/
theorem pe_fn {X : Cx} {j k : Nat} {x : Str} {ps : List Str} {sp : Sp} {p pos : Pos} {e : Expr} {es : List Expr} {t : TA} (F : Fn X.prog X.w X.K X.mg X.base k x ps sp) (hr : Room j X.A) (hg : Gl X x) (ha : PA X (e :: es) t) (hx : ∀ v s, ¬ X.xe v s → X.xe = X.xe := by intros; rfl)
    (hjk : k ≤ j := by decide) (hdb : (x == ("__debug__" : Str)) = false := by decide) (he : starEach (e :: es) X.env = (false, eval e X.env) :: starEach es X.env := by rfl) (hpl : (backTo pos (starEach es X.env)).any (·.1) = false := by rfl) :
    PE X (.Call (.Name x p) (e :: es) [] pos) (tCall sp [] E0 t) := by
  obtain ⟨f, fd, hm, kp, b, G⟩ := F
  exact pe_call G (hr.mono hjk) hg hm kp b .nil pass0 ha hdb he hpl
/-- the built-ins that are used, not hidden by the text -/
def Bl (mg : Str → Option Value) (l : List Str) : Prop := ∀ x, x ∈ l → mg x = none

/-- all but the list at p is as it was; p is a hand -/
def Hand (H : Hp) (p : Addr) : Prop := ∃ d e : Int, H p = some (.lst [.int d, .int e]) ∧ 0 ≤ e ∧ e < 2147483587
/-- what was there but at p is as it was -/
def But (p : Addr) (H H' : Hp) : Prop := ∀ b o, b ≠ p → H b = some o → SamO o (H' b)
theorem But.refl (p : Addr) (H : Hp) : But p H H := fun _ _ _ h => SamO.of h
theorem But.ap {p : Addr} {H H' : Hp} (s : But p H H') {c : Addr} {o : HO} (n : c ≠ p) (h : SamO o (H c)) : SamO o (H' c) := by
  cases o <;> first
    | exact s c _ n h
    | (obtain ⟨qs, e⟩ := h; have z : ∃ r, H' c = Option.some (.tbl r) := s c (.tbl qs) n e; exact z)
theorem But.trans {p : Addr} {H H1 H2 : Hp} (a : But p H H1) (b : But p H1 H2) : But p H H2 := fun c o n h => b.ap n (a c o n h)
theorem But.same {p : Addr} {H H1 H2 : Hp} (s : Same H H1) (f : H p = none) (b : But p H1 H2) : Same H H2 := fun c o e => b.ap (ne_of_none e f) (s c o e)
theorem But.upd {p : Addr} {H : Hp} (o : HO) : But p H (upd H p o) := fun b _ n h => by rw [upd_ne n]; exact SamO.of h
theorem But.new {p q : Addr} {H : Hp} {o : HO} (h : H q = none) : But p H (L2.upd H q o) := fun b u n e => by rw [upd_ne (ne_of_none e h)]; exact SamO.of e
theorem Same.new {q : Addr} {H : Hp} {o : HO} (h : H q = none) : Same H (L2.upd H q o) := fun b u e => by rw [upd_ne (ne_of_none e h)]; exact SamO.of e
theorem Same.but {p : Addr} {H H' : Hp} (s : Same H H') : But p H H' := fun b o _ e => s b o e
theorem Hand.new {H : Hp} {p q : Addr} {o : HO} (h : Hand H p) (n : H q = none) : Hand (L2.upd H q o) p := by
  obtain ⟨d, e, h, r⟩ := h
  exact ⟨d, e, by rw [upd_ne (ne_of_none h n)]; exact h, r⟩
theorem Hand.same {H H' : Hp} {p : Addr} (h : Hand H p) (s : Same H H') : Hand H' p := by
  obtain ⟨d, e, h, r⟩ := h
  exact ⟨d, e, s _ _ h, r⟩
theorem But.lst {p a : Addr} {H H' : Hp} {xs : List V} (s : But p H H') (n : a ≠ p) (h : H a = some (.lst xs)) : H' a = some (.lst xs) := s _ _ n h
theorem But.seq {K : PySem.W.Frag} {p a : Addr} {H H' : Hp} {xs : List V} (s : But p H H') (n : a ≠ p) (h : SqL K H a xs) : SqL K H' a xs := by
  rcases h with (h | ⟨o, h⟩) | h
  · exact .inl (.inl (s _ _ n h))
  · exact .inl (.inr ⟨o, s _ _ n h⟩)
  · exact .inr h
theorem Hand.ne {H : Hp} {p q : Addr} (h : Hand H p) (n : H q = none) : q ≠ p := by
  obtain ⟨d, e, h, _⟩ := h
  exact (ne_of_none h n).symm
/-- a store at an address that was free in H -/
theorem But.at {p D : Addr} {H H' : Hp} {o : HO} (s : But p H H') (f : H D = none) : But p H (L2.upd H' D o) := fun b u n e => by
  rw [upd_ne (ne_of_none e f)]; exact s b u n e
theorem Hand.at {H : Hp} {p D : Addr} {o : HO} (h : Hand H p) (n : D ≠ p) : Hand (L2.upd H D o) p := by
  obtain ⟨d, e, h, r⟩ := h
  exact ⟨d, e, by rw [upd_ne n.symm]; exact h, r⟩
theorem Hand.some {H : Hp} {p : Addr} (h : Hand H p) : H p ≠ none := by
  obtain ⟨d, e, h, _⟩ := h
  rw [h]; simp
end L2

set_option Elab.async false
set_option linter.all false
set_option maxRecDepth 100000
set_option maxHeartbeats 4000000
namespace L2
open PySem PySem.Spec PyProof.Rows
abbrev intsD (ns : List Int) : PyData := .list (ns.map PyData.int)
abbrev prD (p : Int × Int) : PyData := .tuple [.int p.1, .int p.2]
abbrev prsD (ps : List (Int × Int)) : PyData := .list (ps.map prD)
section
variable {K : PySem.W.Frag} {H : Hp}
theorem dpInts (ns : List Int) : DpAll K H (ns.map V.int) (ns.map PyData.int) := by
  induction ns with
  | nil => exact .nil
  | cons n r ih => exact .cons (.int n) ih
theorem dpInts' {a : Addr} {ns : List Int} (h : SqL K H a (ns.map V.int)) : Dp K H (.ref a) (intsD ns) := .lst h (dpInts ns)
mutual
theorem Dp.same {H' : Hp} (s : Same H H') : ∀ (d : PyData) (v : V), Dp K H v d → Dp K H' v d
  | .none, _, h => by cases h; exact .non
  | .bool b, _, h => by cases h; exact .bl b
  | .int i, _, h => by cases h; exact .int i
  | .str x, _, h => by cases h; exact .str x
  | .list ds, _, h => by
    cases h with
    | lst hs ha => exact .lst (s.seq hs) (DpAll.same s ds _ ha)
  | .tuple ds, _, h => by
    cases h with
    | tup hs ha =>
      refine .tup ?_ (DpAll.same s ds _ ha)
      rcases hs with (h | ⟨o, h⟩) | h
      · exact .inl (.inl (s _ _ h))
      · exact .inl (.inr ⟨o, s _ _ h⟩)
      · exact .inr h
  | .dict _, _, h => by cases h
theorem DpAll.same {H' : Hp} (s : Same H H') : ∀ (ds : List PyData) (vs : List V), DpAll K H vs ds → DpAll K H' vs ds
  | [], _, h => by cases h; exact .nil
  | d :: ds, _, h => by
    cases h with
    | cons h1 h2 => exact .cons (Dp.same s d _ h1) (DpAll.same s ds _ h2)
end
end
theorem canLayInts (ns : List Int) : PyData.canLayAll0 (ns.map PyData.int) = true := by
  induction ns with
  | nil => rfl
  | cons n r ih =>
    rw [List.map_cons]
    simp [PyData.canLayAll0, PyData.canLay0, ih]
theorem depthInts (ns : List Int) : PyData.depthAll (ns.map PyData.int) ≤ 1 := by
  induction ns with
  | nil => simp [PyData.depthAll]
  | cons n r ih =>
    rw [List.map_cons]
    simp only [PyData.depthAll, PyData.depth]
    omega
theorem shapedInts (ns : List Int) : SeqAt.shaped (intsD ns) = true := by
  have h1 := canLayInts ns
  have h2 := depthInts ns
  unfold SeqAt.shaped
  simp only [PyData.canLay0, PyData.depth, h1, Bool.true_and]
  exact decide_eq_true (by omega)
theorem eqvAllInts : ∀ (ns ms : List Int), PyData.eqvAll (ns.map PyData.int) (ms.map PyData.int) = decide (ns = ms)
  | [], [] => by simp [PyData.eqvAll]
  | [], _ :: _ => by simp [PyData.eqvAll]
  | _ :: _, [] => by simp [PyData.eqvAll]
  | n :: ns, m :: ms => by
    rw [List.map_cons, List.map_cons]
    simp only [PyData.eqvAll, PyData.eqv, eqvAllInts ns ms, List.cons.injEq, Bool.decide_and]
    rfl
theorem eqvInts (ns ms : List Int) : PyData.eqv (intsD ns) (intsD ms) = decide (ns = ms) := by
  simp only [PyData.eqv]; exact eqvAllInts ns ms
section
variable {X : Cx}
def rEqLI (K : PySem.W.Frag) : R2 := fun x y H Q => ∃ (a b : Addr) (ns ms : List Int), x = .ref a ∧ y = .ref b ∧ SqL K H a (ns.map V.int) ∧ SqL K H b (ms.map V.int) ∧ Q (.bl (decide (ns = ms))) H
theorem op_eqLI (hu : X.A.units + 64 < cLine) : OpR X (compareOp .Eq) (rEqLI X.K) := by
  intro pins s σ H x y v u Q I rx ry h
  obtain ⟨a, b, ns, ms, rfl, rfl, h1, h2, q⟩ := h
  exact op_eqD hu pins s σ H _ _ v u Q I rx ry ⟨_, _, dpInts' h1, dpInts' h2, shapedInts _, shapedInts _, by rw [eqvInts]; exact q⟩
end
/-- a slice of a list of ints -/
def cutI (ns : List Int) (lo hi : Option Int) : List Int := (ns.drop (HT.sIx ns.length 0 lo)).take (HT.sIx ns.length ns.length hi - HT.sIx ns.length 0 lo)
theorem cut_ints (ns : List Int) (lo hi : Option Int) : cutV (ns.map V.int) lo hi = (cutI ns lo hi).map V.int := by
  unfold cutV cutI
  rw [List.length_map, List.map_take, List.map_drop]
theorem cutI_len (ns : List Int) (lo hi : Option Int) : (cutI ns lo hi).length ≤ ns.length := by
  unfold cutI
  rw [List.length_take, List.length_drop]
  omega
theorem cutI_to (ns : List Int) (k : Int) (h0 : 0 ≤ k) : cutI ns none (some k) = ns.take k.toNat := by
  unfold cutI HT.sIx
  dsimp only
  rw [if_neg (by omega), Nat.sub_zero, List.drop_zero]
  rcases Nat.le_total k.toNat ns.length with h | h
  · rw [Nat.min_eq_left h]
  · rw [Nat.min_eq_right h, List.take_of_length_le (Nat.le_refl _), List.take_of_length_le h]
theorem cutI_from_to (ns : List Int) (i k : Int) (h0 : 0 ≤ i) (h1 : 0 ≤ k) (h2 : i ≤ k) (h3 : k ≤ ns.length) : cutI ns (some i) (some k) = (ns.drop i.toNat).take (k.toNat - i.toNat) := by
  unfold cutI HT.sIx
  dsimp only
  rw [if_neg (by omega), if_neg (by omega), Nat.min_eq_left (by omega), Nat.min_eq_left (by omega)]
theorem line1000 {n : Nat} (h : n ≤ 1000) : n ≤ sizeLine := Nat.le_of_lt (small1000 h)
theorem repI (k : Nat) (ns : List Int) : (List.replicate k (ns.map V.int)).flatten = ((List.replicate k ns).flatten).map V.int := by
  rw [List.map_flatten, List.map_replicate]
theorem getD_ints {ns : List Int} {j : Nat} (h : j < ns.length) : (ns.map V.int).getD j .non = V.int (ns.getD j 0) := by
  rw [List.getD_eq_getElem?_getD, List.getD_eq_getElem?_getD, List.getElem?_map, List.getElem?_eq_getElem h]
  rfl
theorem at_pick {ns : List Int} {i : Int} (h0 : 0 ≤ i) (h1 : i < ns.length) : ∃ v, v ∈ ns ∧ atI (ns.map V.int) i = some (V.int v) := by
  have hl : i.toNat < ns.length := by omega
  refine ⟨ns[i.toNat], List.getElem_mem hl, at_of (j := i.toNat) (by omega) ?_⟩
  rw [List.getElem?_map, List.getElem?_eq_getElem hl]
  rfl
theorem ix_nat {n : Nat} {i : Int} (h0 : 0 ≤ i) (h1 : i < n) : ixN n i = some i.toNat := by
  unfold ixN
  rw [if_pos h0, if_pos h1]
theorem seqJ {t rest : TS} {D : Ends} {σ : St} {H : Hp} (J : St → Hp → Prop) (h1 : (∀ σ' H', J σ' H' → rest D σ' H') → t { D with nx := rest D } σ H) (h2 : ∀ σ' H', J σ' H' → rest D σ' H') : tSeq t rest D σ H := h1 h2
theorem at_int {ns : List Int} {i : Int} (h0 : 0 ≤ i) (h1 : i < ns.length) : atI (ns.map V.int) i = some (V.int (ns.getD i.toNat 0)) := by
  have hl : i.toNat < ns.length := by omega
  refine at_of (j := i.toNat) (by omega) ?_
  rw [List.getElem?_map, List.getElem?_eq_getElem hl]
  simp [List.getD_eq_getElem?_getD, List.getElem?_eq_getElem hl]
end L2

set_option Elab.async false
set_option linter.all false
set_option maxRecDepth 100000
set_option maxHeartbeats 4000000
namespace L2
open PySem PySem.Spec PyProof.Rows
def minL : List Int → Int
  | [] => 0
  | [a] => a
  | a :: b :: r => if minL (b :: r) < a then minL (b :: r) else a
def maxL : List Int → Int
  | [] => 0
  | [a] => a
  | a :: b :: r => if a < maxL (b :: r) then maxL (b :: r) else a
theorem minL_spec : ∀ {l : List Int}, l ≠ [] → minL l ∈ l ∧ ∀ y ∈ l, minL l ≤ y
  | [], h => absurd rfl h
  | [a], _ => ⟨List.mem_singleton.mpr rfl, fun y hy => by rw [List.mem_singleton.mp hy]; exact Int.le_refl _⟩
  | a :: b :: r, _ => by
    have ih := minL_spec (l := b :: r) (by simp)
    have e : minL (a :: b :: r) = if minL (b :: r) < a then minL (b :: r) else a := rfl
    by_cases h : minL (b :: r) < a
    · rw [if_pos h] at e
      rw [e]
      refine ⟨List.mem_cons_of_mem _ ih.1, fun y hy => ?_⟩
      rcases List.mem_cons.mp hy with z | z
      · omega
      · exact ih.2 y z
    · rw [if_neg h] at e
      rw [e]
      refine ⟨List.mem_cons_self, fun y hy => ?_⟩
      rcases List.mem_cons.mp hy with z | z
      · omega
      · have := ih.2 y z; omega
theorem maxL_spec : ∀ {l : List Int}, l ≠ [] → maxL l ∈ l ∧ ∀ y ∈ l, y ≤ maxL l
  | [], h => absurd rfl h
  | [a], _ => ⟨List.mem_singleton.mpr rfl, fun y hy => by rw [List.mem_singleton.mp hy]; exact Int.le_refl _⟩
  | a :: b :: r, _ => by
    have ih := maxL_spec (l := b :: r) (by simp)
    have e : maxL (a :: b :: r) = if a < maxL (b :: r) then maxL (b :: r) else a := rfl
    by_cases h : a < maxL (b :: r)
    · rw [if_pos h] at e
      rw [e]
      refine ⟨List.mem_cons_of_mem _ ih.1, fun y hy => ?_⟩
      rcases List.mem_cons.mp hy with z | z
      · omega
      · exact ih.2 y z
    · rw [if_neg h] at e
      rw [e]
      refine ⟨List.mem_cons_self, fun y hy => ?_⟩
      rcases List.mem_cons.mp hy with z | z
      · omega
      · have := ih.2 y z; omega
theorem minL_uniq {l : List Int} {m : Int} (h1 : m ∈ l) (h2 : ∀ y ∈ l, m ≤ y) : minL l = m := by
  have hne : l ≠ [] := fun e => by rw [e] at h1; cases h1
  have := minL_spec hne
  have a := this.2 m h1
  have b := h2 _ this.1
  omega
theorem maxL_uniq {l : List Int} {m : Int} (h1 : m ∈ l) (h2 : ∀ y ∈ l, y ≤ m) : maxL l = m := by
  have hne : l ≠ [] := fun e => by rw [e] at h1; cases h1
  have := maxL_spec hne
  have a := this.2 m h1
  have b := h2 _ this.1
  omega
theorem spread_nn {x : List Int} (hx : x ≠ []) : minL x ≤ maxL x := by
  have a := minL_spec hx
  have b := maxL_spec hx
  exact b.2 _ a.1
/-- the first place of n in a list -/
def fst (n : Int) : List Int → Nat
  | [] => 0
  | a :: r => if a = n then 0 else fst n r + 1
theorem fst_at {n : Int} : ∀ {l : List Int}, n ∈ l → l[fst n l]? = some n ∧ fst n l < l.length ∧ ∀ (m : Nat) (z : Int), m < fst n l → l[m]? = some z → z ≠ n
  | [], h => nomatch h
  | a :: r, h => by
    by_cases e : a = n
    · have ef : fst n (a :: r) = 0 := if_pos e
      rw [ef]
      exact ⟨by simp [e], by simp, fun m z hm => absurd hm (by omega)⟩
    · have ef : fst n (a :: r) = fst n r + 1 := if_neg e
      have h' : n ∈ r := by
        rcases List.mem_cons.mp h with z | z
        · exact absurd z.symm e
        · exact z
      obtain ⟨h1, h2, h3⟩ := fst_at h'
      rw [ef]
      refine ⟨by simpa using h1, by simp; omega, fun m z hm q => ?_⟩
      cases m with
      | zero =>
        have : a = z := by simpa using q
        rw [← this]; exact e
      | succ m => exact h3 m z (by omega) (by simpa using q)
theorem fst_uniq {n : Int} {l : List Int} {j : Nat} (h1 : l[j]? = some n) (h2 : ∀ (m : Nat) (z : Int), m < j → l[m]? = some z → z ≠ n) : fst n l = j := by
  have hm : n ∈ l := List.mem_of_getElem? h1
  obtain ⟨a1, a2, a3⟩ := fst_at hm
  rcases Nat.lt_trichotomy (fst n l) j with z | z | z
  · exact absurd rfl (h2 _ n z a1)
  · exact z
  · exact absurd rfl (a3 _ n z h1)
/-- a stretch -/
def seg (ns : List Int) (b e : Int) : List Int := (ns.drop b.toNat).take (e.toNat - b.toNat)
/-- begin and end of a stretch of so many -/
structure IsSt (n : Nat) (b e : Int) : Prop where
  b0 : 0 ≤ b
  be : b < e
  en : e ≤ n
theorem seg_len {ns : List Int} {b e : Int} (h : IsSt ns.length b e) : (seg ns b e).length = e.toNat - b.toNat := by
  have := h.b0; have := h.be; have := h.en
  unfold seg
  rw [List.length_take, List.length_drop]
  omega
theorem seg_ne {ns : List Int} {b e : Int} (h : IsSt ns.length b e) : seg ns b e ≠ [] := fun z => by
  have := seg_len h
  rw [z] at this
  have := h.b0; have := h.be
  simp at *
  omega
theorem seg_cut {ns : List Int} {b e : Int} (h : IsSt ns.length b e) : cutI ns (some b) (some e) = seg ns b e := by
  have := h.b0; have := h.be; have := h.en
  exact cutI_from_to ns b e (by omega) (by omega) (by omega) (by omega)
theorem seg_get {ns : List Int} {b e : Int} (h0 : 0 ≤ b) {j : Nat} (hj : j < e.toNat - b.toNat) : (seg ns b e)[j]? = ns[b.toNat + j]? := by
  unfold seg
  rw [List.getElem?_take, if_pos hj, List.getElem?_drop]
theorem seg_rev {ns : List Int} {b e : Int} (h : IsSt ns.length b e) : seg ns.reverse ((ns.length : Int) - e) ((ns.length : Int) - b) = (seg ns b e).reverse := by
  have hb := h.b0; have hbe := h.be; have hen := h.en
  have hl := seg_len h
  have h' : IsSt ns.reverse.length ((ns.length : Int) - e) ((ns.length : Int) - b) := ⟨by omega, by omega, by rw [List.length_reverse]; omega⟩
  have hl' := seg_len h'
  apply List.ext_getElem?
  intro j
  by_cases hj : j < e.toNat - b.toNat
  · rw [seg_get (by omega) (by omega), List.getElem?_reverse (by omega), List.getElem?_reverse (by omega), seg_get hb (by omega)]
    congr 1
    omega
  · rw [List.getElem?_eq_none (by omega), List.getElem?_eq_none (by rw [List.length_reverse]; omega)]
/-- the first place of the least, within the stretch -/
def pl (l : List Int) : Nat := fst (minL l) l
end L2

set_option Elab.async false
set_option linter.all false
set_option maxRecDepth 100000
set_option maxHeartbeats 4000000
namespace L2
open PySem PySem.Spec PyProof.Rows
theorem ifEq {x y : V} {A B : Prop} (h : x = y) (hA : A) : if (decide (x = y)) = true then A else B := by
  rw [decide_eq_true h]; exact hA
theorem ifNot {c : Prop} [Decidable c] {A B : Prop} (h : c) (hB : B) : if (!decide c) = true then A else B := by
  rw [decide_eq_true h]; exact hB
theorem updupd (H : Hp) (a : Addr) (o o' : HO) : upd (upd H a o) a o' = upd H a o' := by
  funext b
  unfold upd
  by_cases h : b = a
  · rw [if_pos h, if_pos h]
  · rw [if_neg h, if_neg h, if_neg h]
theorem get_ints {ns : List Int} {k : Nat} {x : V} (h : (ns.map V.int)[k]? = some x) : ∃ n, ns[k]? = some n ∧ x = .int n := by
  rw [List.getElem?_map] at h
  cases e : ns[k]? with
  | none => rw [e] at h; cases h
  | some n => rw [e] at h; exact ⟨n, rfl, (Option.some.inj h).symm⟩
theorem take_snoc {α : Type} {l : List α} {k : Nat} {n : α} (h : l[k]? = some n) : l.take (k + 1) = l.take k ++ [n] := by
  rw [List.take_succ, h]; rfl
/-- [f(n) for n in row]: a new list -/
theorem lc_mapI {K : PySem.W.Frag} {a : Addr} {ns : List Int} {f : Int → Int} {te : TE} {i : Nat} {vs : List Nat} {σ : St} {H : Hp} {D : Addr} {Qd : Hp → Prop} (hs : SqL K H a (ns.map V.int)) (hD : H D = none) (hlen : ns.length ≤ 1000)
    (hw : ∀ v, wipe ((wipe σ vs).set i (some v)) vs = wipe σ vs)
    (ht : ∀ (n : Int) (H' : Hp) (R : VK), R (.int (f n)) H' → te ((wipe σ vs).set i (some (.int n))) H' R)
    (hd : Qd (upd H D (.lst ((ns.map f).map V.int)))) :
    ∃ W : Nat → Nat → Hp → Prop, (∃ m, W 0 m (upd H D (.lst []))) ∧ ∀ j m H, W j m H →
      ((Itl K a).stop j H ∧ Qd H) ∨ ((Itl K a).go j H ∧ ∃ Nx : Hp → Prop, (∀ H', Nx H' → ∃ m', m' < m ∧ W (j + 1) m' H') ∧ ∀ x H', (Itl K a).yld j H x H' → gName i x (wipe σ vs) H' fun σ2 H2 => wipe σ2 vs = wipe σ vs ∧ tYes σ2 H2 fun b H3 =>
        if b = true then te σ2 H3 fun y H4 => ∃ acc, H4 D = some (.lst acc) ∧ acc.length < sizeLine ∧ Nx (upd H4 D (.lst (acc ++ [y]))) else Nx H3) := by
  refine lc_list (K := K) (a := a) (xs := ns.map V.int) (fun k H' => H' = upd H D (.lst (((ns.take k).map f).map V.int))) rfl (fun k H' _ e => by rw [e]; exact (Same.new hD).seq hs) ?_ ?_
  · rintro k x H' hx rfl
    obtain ⟨n, hn, rfl⟩ := get_ints hx
    refine ⟨hw _, ?_⟩
    show te ((wipe σ vs).set i (some (.int n))) _ _
    refine ht n _ _ ⟨_, upd_same, ?_, ?_⟩
    · rw [List.length_map, List.length_map]
      exact small1000 (Nat.le_trans (List.length_take_le' k ns) hlen)
    · rw [updupd, take_snoc hn, List.map_append, List.map_append]
      rfl
  · rintro H' rfl
    rw [List.length_map, List.take_length]
    exact hd
end L2

set_option Elab.async false
set_option linter.all false
set_option maxRecDepth 100000
set_option maxHeartbeats 4000000
namespace L2
open PySem PySem.Spec PyProof.Rows
section
variable {X : Cx}
end
end L2

set_option Elab.async false
set_option linter.all false
set_option maxRecDepth 100000
set_option maxHeartbeats 4000000
namespace L2
open PySem PySem.Spec PyProof.Rows
/-- for i, x in enumerate(xs), the list left as it is -/
theorem for_enum {K : PySem.W.Frag} {a : Addr} {xs : List V} {g : TG} {tb : TS} {D : Ends} {σ : St} {H : Hp} (Pv : Nat → St → Hp → Prop) (h0 : Pv 0 σ H) (hl : ∀ i σ H, i ≤ xs.length → Pv i σ H → SqL K H a xs)
    (hs : ∀ i x σ H T, xs[i]? = some x → Pv i σ H → H T = none → g (.ref T) σ (upd H T (.tup [.int (i : Nat), x])) fun σ2 H2 => tb { D with nx := Pv (i + 1), ct := Pv (i + 1), bk := D.nx } σ2 H2) (hd : ∀ σ H, Pv xs.length σ H → D.nx σ H) :
    ∃ W : Nat → Nat → St → Hp → Prop, (∃ m, W 0 m σ H) ∧ ∀ i m σ H, W i m σ H →
      ((Ite K a).stop i H ∧ D.nx σ H) ∨ ((Ite K a).go i H ∧ ∃ N : St → Hp → Prop, (∀ σ' H', N σ' H' → ∃ m', m' < m ∧ W (i + 1) m' σ' H') ∧ ∀ x H', (Ite K a).yld i H x H' → g x σ H' fun σ2 H2 => tb { D with nx := N, ct := N, bk := D.nx } σ2 H2) := by
  refine ⟨fun i m σ H => m = xs.length - i ∧ i ≤ xs.length ∧ Pv i σ H, ⟨xs.length, by simp, Nat.zero_le _, h0⟩, ?_⟩
  rintro i m σ H ⟨rfl, hi, p⟩
  have q := hl i σ H hi p
  by_cases hlt : i < xs.length
  · refine .inr ⟨⟨xs, xs[i], q, by simp [hlt]⟩, Pv (i + 1), fun σ' H' p' => ⟨xs.length - (i + 1), by omega, rfl, hlt, p'⟩, fun x H' y => ?_⟩
    obtain ⟨T, x, e1, e2, e3, y⟩ := y
    subst e1 e3
    exact hs i x σ _ T (y xs q) p e2
  · have e : i = xs.length := by omega
    subst e
    exact .inl ⟨⟨xs, q, Nat.le_refl _⟩, hd σ H p⟩

abbrev ZpO (h : Heap) (z TI TO : Addr) (f0 : Value) (f1 : Bool) : Prop :=
  h.get? z = some { cls := .type "zip", dict := none, data := .fields #[f0, .bool f1, .bool false, .ref TI, .ref TO], slots := #[] }
def ZpSt (h : Heap) (z TI TO : Addr) : Prop := (IsZip h z TI TO .none ∧ ∃ x y, IsPair h TO x y) ∨ ∃ (a : Addr) (o : Obj) (f1 : Bool), ZpO h z TI TO (rawInt a) f1 ∧ h.get? a = some o
section
variable {prog : Program} {w : World} {A : Around} {E : Value → Shared → Prop} {s : Shared}
theorem zp_free {z TI TO a : Addr} {oa : Obj} {f1 : Bool} {Q : Bool → Shared → Prop} (hz : ZpO s.heap z TI TO (rawInt a) f1) (ha : s.heap.get? a = some oa)
    (hQ : ∀ hh, ZpO hh z TI TO (rawInt a) true → Heap.SameBut z s.heap hh → Q false { s with heap := hh }) : wpAny (model prog w) A (Builtin.SmallTypes.ownedTupleIsFree (.ref z)) Q E s := by
  unfold Builtin.SmallTypes.ownedTupleIsFree
  refine wpAny_bind (wpAny_field hz rfl (x := rawInt a) rfl ?_)
  show wpAny _ _ (loadIfAlive ((a : Int).toNat) >>= _) _ _ _
  rw [Int.toNat_natCast]
  refine wpAny_bind (PySem.W.kdx_alive ha ?_)
  simp only [Option.isNone_some, Bool.false_eq_true, if_false]
  refine wpAny_bind (wpAny_field hz rfl (x := .bool f1) rfl ?_)
  cases f1 with
  | true =>
    rw [if_neg (show ¬ ((Value.bool true != Value.bool true) = true) from Bool.false_ne_true)]
    exact wpAny_pure (hQ _ hz (Heap.SameBut.refl _ _))
  | false =>
    rw [if_pos (show (Value.bool false != Value.bool true) = true from rfl)]
    exact wpAny_bind (wpAny_setField_rec hz (by simp) fun h₅ he₅ hs₅ => wpAny_pure (hQ h₅ he₅ hs₅))
theorem zp_next {z TI TO i1 i2 l1 l2 : Addr} {k : Nat} {xs ys : Array Value} {x y : Value} {Q : Option Value → Shared → Prop} (D : ZipApart z TI TO i1 i2 l1 l2)
    (hz : ZpSt s.heap z TI TO) (hTI : IsPair s.heap TI (.ref i1) (.ref i2))
    (h1 : s.heap.IsListIter i1 l1 k) (h2 : s.heap.IsListIter i2 l2 k) (hl1 : s.heap.IsList l1 xs) (hl2 : s.heap.IsList l2 ys) (hx : xs[k]? = some x) (hy : ys[k]? = some y)
    (hQ : ∀ h', ZpSt h' z TI TO → h'.IsListIter i1 l1 (k + 1) → h'.IsListIter i2 l2 (k + 1) → IsPair h' s.heap.objs.size x y → h'.objs.size = s.heap.objs.size + 1 →
      (∀ c o, c ≠ z → c ≠ TO → c ≠ i1 → c ≠ i2 → s.heap.get? c = some o → h'.get? c = some o) → Q (some (.ref s.heap.objs.size)) { s with heap := h' }) :
    wpAny (model prog w) A (pyNext (.ref z)) Q E s := by
  rcases hz with ⟨hz, a, b, hTO⟩ | ⟨a, oa, f1, hz, ha⟩
  · exact wpAny_pyNext_zip_item D hz hTI hTO h1 h2 hl1 hl2 hx hy fun h' z1 z2 z3 z4 z5 z6 z7 => hQ h' (.inr ⟨s.heap.objs.size, _, false, z1, z5⟩) z3 z4 z5 z6 z7
  · have hT : s.TypeIs (.ref z) "zip" := ⟨_, hz, rfl⟩
    unfold pyNext
    refine wpAny_bind (wpAny_attempt (wpAny_callSpecial?_slot (name := Str.ofString "__next__") hT F.slot_zip_next
      (wpAny_call_entry F.slot_zip_next hT F.entry_zip_next ?_ (F.args_zip_next_1 _))))
    show wpAny _ _ (field (.ref z) 2 >>= _) _ _ _
    refine wpAny_bind (wpAny_field hz rfl (x := .bool false) rfl ?_)
    show wpAny _ _ (field (.ref z) 3 >>= _) _ _ _
    refine wpAny_bind (wpAny_field hz rfl (x := .ref TI) rfl ?_)
    refine wpAny_bind (wpAny_seqItems hTI rfl ?_)
    show wpAny _ _ (Builtin.SmallTypes.ownedTupleIsFree (.ref z) >>= _) _ _ _
    refine wpAny_bind (zp_free hz ha fun hh hz₁ hs₁ => ?_)
    simp only [Bool.false_eq_true, if_false, List.forIn_toArray, List.forIn_cons, List.forIn_nil]
    refine wpAny_bind (wpAny_bind (wpAny_bind (wpAny_holding ?_)))
    show wpAny _ _ (Builtin.SmallTypes.nextOf (.ref i1) >>= _) _ _ _
    refine wpAny_bind (wpAny_nextOf_list_item (h1.extBut hs₁.extBut D.i1z) (hl1.extBut hs₁.extBut D.l1z) hx fun h₂ h1₂ hs₂ => wpAny_pure ?_)
    refine wpAny_pure ?_
    refine wpAny_bind (wpAny_bind (wpAny_holding ?_))
    show wpAny _ _ (Builtin.SmallTypes.nextOf (.ref i2) >>= _) _ _ _
    refine wpAny_bind (wpAny_nextOf_list_item ((h2.extBut hs₁.extBut D.i2z).extBut hs₂.extBut D.i12.symm) ((hl2.extBut hs₁.extBut D.l2z).extBut hs₂.extBut D.l2i1) hy fun h₄ h2₄ hs₄ => wpAny_pure ?_)
    refine wpAny_pure (wpAny_pure ?_)
    have hsz : h₄.objs.size = s.heap.objs.size := by rw [hs₄.1, hs₂.1, hs₁.1]
    have up : ∀ c o, c ≠ z → c ≠ i1 → c ≠ i2 → s.heap.get? c = some o → h₄.get? c = some o := fun c o c1 c2 c3 e => hs₄.extBut _ _ c3 (hs₂.extBut _ _ c2 (hs₁.extBut _ _ c1 e))
    have hz₄ : ZpO h₄ z TI TO (rawInt a) true := hs₄.extBut _ _ D.i2z.symm (hs₂.extBut _ _ D.i1z.symm hz₁)
    refine wpAny_bind (wpAny_newTuple (hsz := by show 2 ≤ sizeLine; decide) ?_)
    refine wpAny_pure ⟨_, rfl, wpAny_pure ?_⟩
    show Q (some (.ref h₄.objs.size)) _
    rw [hsz]
    refine hQ _ (.inr ?_) ?_ ?_ ?_ ?_ ?_
    · have ha4 : ∃ o, h₄.get? a = some o := by
        by_cases e1 : a = z
        · rw [e1]; exact ⟨_, hz₄⟩
        · by_cases e2 : a = i1
          · obtain ⟨o, ho, _⟩ := h1₂.extBut hs₄.extBut D.i12
            rw [e2]; exact ⟨o, ho⟩
          · by_cases e3 : a = i2
            · obtain ⟨o, ho, _⟩ := h2₄
              rw [e3]; exact ⟨o, ho⟩
            · exact ⟨_, up a oa e1 e2 e3 ha⟩
      obtain ⟨o4, ho4⟩ := ha4
      exact ⟨a, o4, true, Heap.get?_push_of_some _ hz₄, Heap.get?_push_of_some _ ho4⟩
    · exact (h1₂.extBut hs₄.extBut D.i12).at fun o e => Heap.get?_push_of_some _ e
    · exact h2₄.at fun o e => Heap.get?_push_of_some _ e
    · rw [← hsz]; exact Heap.get?_push_size _ rfl
    · rw [Heap.size_push, hsz]
    · exact fun c o c1 _ c3 c4 e => Heap.get?_push_of_some _ (up c o c1 c3 c4 e)
theorem zp_end {z TI TO i1 i2 l1 l2 : Addr} {k : Nat} {xs ys : Array Value} {Q : Option Value → Shared → Prop} (hh : A.handled = none) (D : ZipApart z TI TO i1 i2 l1 l2)
    (hz : ZpSt s.heap z TI TO) (hTI : IsPair s.heap TI (.ref i1) (.ref i2))
    (h1 : s.heap.IsListIter i1 l1 k) (h2 : s.heap.IsListIter i2 l2 k) (hl1 : s.heap.IsList l1 xs) (hl2 : s.heap.IsList l2 ys) (hx : xs[k]? = none)
    (hQ : ∀ h', (∀ c o, c ≠ z → c ≠ TO → c ≠ i1 → c ≠ i2 → s.heap.get? c = some o → h'.get? c = some o) → Q none { s with heap := h' }) : wpAny (model prog w) A (pyNext (.ref z)) Q E s := by
  rcases hz with ⟨hz, a, b, hTO⟩ | ⟨a, oa, f1, hz, ha⟩
  · exact wpAny_pyNext_zip_end hh D hz hTI hTO h1 h2 hl1 hl2 (.inl hx) hQ
  · have hT : s.TypeIs (.ref z) "zip" := ⟨_, hz, rfl⟩
    unfold pyNext
    refine wpAny_bind (wpAny_attempt (wpAny_callSpecial?_slot (name := Str.ofString "__next__") hT F.slot_zip_next
      (wpAny_call_entry F.slot_zip_next hT F.entry_zip_next ?_ (F.args_zip_next_1 _))))
    show wpAny _ _ (field (.ref z) 2 >>= _) _ _ _
    refine wpAny_bind (wpAny_field hz rfl (x := .bool false) rfl ?_)
    show wpAny _ _ (field (.ref z) 3 >>= _) _ _ _
    refine wpAny_bind (wpAny_field hz rfl (x := .ref TI) rfl ?_)
    refine wpAny_bind (wpAny_seqItems hTI rfl ?_)
    show wpAny _ _ (Builtin.SmallTypes.ownedTupleIsFree (.ref z) >>= _) _ _ _
    refine wpAny_bind (zp_free hz ha fun hh' hz₁ hs₁ => ?_)
    simp only [Bool.false_eq_true, if_false, List.forIn_toArray, List.forIn_cons, List.forIn_nil]
    refine wpAny_bind (wpAny_bind (wpAny_bind (wpAny_holding ?_)))
    show wpAny _ _ (Builtin.SmallTypes.nextOf (.ref i1) >>= _) _ _ _
    refine wpAny_bind (wpAny_nextOf_list_end hh (h1.extBut hs₁.extBut D.i1z) (hl1.extBut hs₁.extBut D.l1z) hx fun h₂ e hs₂ he => ?_)
    obtain ⟨o, ho, hc⟩ := he
    refine wpAny_bind (wpAny_isInstance (T := "StopIteration") (b := true) ⟨o, ho, hc⟩ isSubtype_stop ?_)
    exact wpAny_pure (hQ _ fun c o c1 _ c3 _ q => hs₂ _ _ c3 (hs₁.extBut _ _ c1 q))
def PrsZ (base : Nat) (xs ys acc : Array Value) (h : Heap) : Prop :=
  ∀ (j : Nat) (u : Value), acc[j]? = some u → ∃ (T : Addr) (x y : Value), u = .ref T ∧ base ≤ T ∧ T < h.objs.size ∧ xs[j]? = some x ∧ ys[j]? = some y ∧ h.get? T = some { cls := .type "tuple", data := .seq #[x, y] }
/-- the tuples' places rise -/
def Ris (acc : Array Value) (n : Nat) : Prop := (∀ (j : Nat) (T : Addr), acc[j]? = some (.ref T) → T < n) ∧ ∀ (i j : Nat) (T U : Addr), i < j → acc[i]? = some (.ref T) → acc[j]? = some (.ref U) → T < U
theorem zp_loop {R : Result → Shared → Prop} {z TI TO i1 i2 l1 l2 S : Addr} {xs ys : Array Value} {base : Nat} (hh : A.handled = none) (D : ZipApart z TI TO i1 i2 l1 l2) (hne : xs.size = ys.size) (hSz : S ≠ z) (hSI : S ≠ TI) (hSO : S ≠ TO) (hS1 : S ≠ i1) (hS2 : S ≠ i2) (hl1S : l1 ≠ S) (hl2S : l2 ≠ S)
    (hbz : z < base) (hbO : TO < base) (hb1 : i1 < base) (hb2 : i2 < base) (hbS : S < base) (hn : xs.size ≤ sizeLine) (res : Value) :
    ∀ (k i : Nat) (s : Shared) (acc : Array Value) (c : Nat), xs.size - i = k → i ≤ xs.size → base ≤ s.heap.objs.size → ZpSt s.heap z TI TO → IsPair s.heap TI (.ref i1) (.ref i2) → s.heap.IsListIter i1 l1 i → s.heap.IsListIter i2 l2 i → s.heap.IsList l1 xs → s.heap.IsList l2 ys →
    s.heap.get? S = some { cls := .type "list", dict := none, data := .seq acc c, slots := #[] } → acc.size = i → PrsZ base xs ys acc s.heap → Ris acc s.heap.objs.size →
    (∀ h' acc' c', (∀ b o, b ≠ S → b ≠ z → b ≠ TO → b ≠ i1 → b ≠ i2 → s.heap.get? b = some o → h'.get? b = some o) → h'.get? S = some { cls := .type "list", dict := none, data := .seq acc' c', slots := #[] } → acc'.size = xs.size →
      (∀ (j : Nat) (u : Value), acc'[j]? = some u → ∃ (T : Addr) (x y : Value), u = .ref T ∧ base ≤ T ∧ xs[j]? = some x ∧ ys[j]? = some y ∧ h'.get? T = some { cls := .type "tuple", data := .seq #[x, y] }) → (∀ (i j : Nat) (T U : Addr), i < j → acc'[i]? = some (.ref T) → acc'[j]? = some (.ref U) → T < U) → R (.ok (.ret res)) { s with heap := h' }) →
    codeAny (model prog w) A (.builtin "list.extend.loop" ⟨[.ref S, .ref z, res], []⟩) R s := by
  intro k
  induction k with
  | zero =>
    intro i s acc c hk hi hb hz hTI h1 h2 hl1 hl2 hS hac hp hris hR
    have hin : i = xs.size := by omega
    refine codeAny_builtin F.entry_extend_loop ?_
    rw [Around.under_plainId F.plain_extend_loop _]
    show wpAny _ A.in1 (pyNext (.ref z) >>= _) _ _ s
    refine wpAny_bind (zp_end hh D hz hTI h1 h2 hl1 hl2 (Array.getElem?_eq_none (by omega)) fun h' hx => ?_)
    refine wpAny_pure (hR h' acc c (fun b o b1 b2 b3 b4 b5 q => hx b o b2 b3 b4 b5 q) (hx S _ hSz hSO hS1 hS2 hS) (by omega) (fun j u q => ?_) hris.2)
    obtain ⟨T, x, y, e1, e2, e2', e3, e4, e5⟩ := hp j u q
    exact ⟨T, x, y, e1, e2, e3, e4, hx T _ (Nat.ne_of_gt (Nat.lt_of_lt_of_le hbz e2)) (Nat.ne_of_gt (Nat.lt_of_lt_of_le hbO e2)) (Nat.ne_of_gt (Nat.lt_of_lt_of_le hb1 e2)) (Nat.ne_of_gt (Nat.lt_of_lt_of_le hb2 e2)) e5⟩
  | succ k ih =>
    intro i s acc c hk hi hb hz hTI h1 h2 hl1 hl2 hS hac hp hris hR
    have hlt : i < xs.size := by omega
    have hx : xs[i]? = some xs[i] := Array.getElem?_eq_getElem hlt
    have hy : ys[i]? = some (ys[i]'(by omega)) := Array.getElem?_eq_getElem (by omega)
    refine codeAny_builtin F.entry_extend_loop ?_
    rw [Around.under_plainId F.plain_extend_loop _]
    show wpAny _ A.in1 (pyNext (.ref z) >>= _) _ _ s
    refine wpAny_bind (zp_next D hz hTI h1 h2 hl1 hl2 hx hy fun h' hz' h1' h2' hT hsz hk' => ?_)
    have hS' : h'.get? S = some { cls := .type "list", dict := none, data := .seq acc c, slots := #[] } := hk' S _ hSz hSO hS1 hS2 hS
    show wpAny _ A.in1 (updateSeq S (·.push (.ref s.heap.objs.size)) >>= _) _ _ _
    refine wpAny_bind ?_
    have oth : ∀ b o, b ≠ S → h'.get? b = some o → (h'.update S (Obj.mapSeq (·.push (.ref s.heap.objs.size)))).get? b = some o := fun b o hb q => (Heap.get?_update_other _ _ (Ne.symm hb)).trans q
    have hszS : s.heap.objs.size ≠ S := Nat.ne_of_gt (Heap.lt_size hS)
    refine wpAny_updateSeq hS' rfl (wpAny_pure ⟨plainId_quiet F.plain_extend_loop _, ih (i + 1) _ (acc.push (.ref s.heap.objs.size)) _ (by omega) hlt ?_ ?_ ?_ ?_ ?_ ?_ ?_ (Heap.get?_update_self _ hS' rfl) (by rw [Array.size_push, hac]) ?_ ?_ ?_⟩)
      (by rw [hac]; omega) (by show (acc.push _).size ≤ sizeLine + 1; rw [Array.size_push, hac]; omega)
    · show base ≤ (h'.update S _).objs.size
      rw [Heap.size_update, hsz]; omega
    · rcases hz' with ⟨q, x, y, q2⟩ | ⟨a, oa, f1, q, q1⟩
      · exact .inl ⟨oth _ _ (Ne.symm hSz) q, x, y, oth _ _ (Ne.symm hSO) q2⟩
      · by_cases haS : a = S
        · subst haS
          exact .inr ⟨a, _, f1, oth _ _ (Ne.symm hSz) q, Heap.get?_update_self _ hS' rfl⟩
        · exact .inr ⟨a, oa, f1, oth _ _ (Ne.symm hSz) q, oth _ _ haS q1⟩
    · exact oth _ _ (Ne.symm hSI) (hk' TI _ D.TIz D.TITO D.TIi1 D.TIi2 hTI)
    · exact h1'.at fun o q => oth _ o (Ne.symm hS1) q
    · exact h2'.at fun o q => oth _ o (Ne.symm hS2) q
    · exact (hl1.at fun o q => hk' l1 o D.l1z D.l1TO D.l1i1 D.l1i2 q).at fun o q => oth _ o hl1S q
    · exact (hl2.at fun o q => hk' l2 o D.l2z D.l2TO D.l2i1 D.l2i2 q).at fun o q => oth _ o hl2S q
    · intro j u q
      have hsz2 : (h'.update S (Obj.mapSeq (·.push (.ref s.heap.objs.size)))).objs.size = s.heap.objs.size + 1 := by rw [Heap.size_update, hsz]
      by_cases hj : j = acc.size
      · subst hj
        rw [Array.getElem?_push_size] at q
        have q' := Option.some.inj q
        subst q'
        exact ⟨s.heap.objs.size, xs[i], _, rfl, hb, by show _ < (h'.update S _).objs.size; omega, by rw [hac]; exact hx, by rw [hac]; exact hy, oth _ _ hszS hT⟩
      · rw [Array.getElem?_push, if_neg hj] at q
        obtain ⟨T, x, y, e1, e2, e2', e3, e4, e5⟩ := hp j u q
        exact ⟨T, x, y, e1, e2, by show _ < (h'.update S _).objs.size; rw [hsz2]; exact Nat.lt_succ_of_lt e2', e3, e4, oth _ _ (Nat.ne_of_gt (Nat.lt_of_lt_of_le hbS e2)) (hk' T _ (Nat.ne_of_gt (Nat.lt_of_lt_of_le hbz e2)) (Nat.ne_of_gt (Nat.lt_of_lt_of_le hbO e2)) (Nat.ne_of_gt (Nat.lt_of_lt_of_le hb1 e2)) (Nat.ne_of_gt (Nat.lt_of_lt_of_le hb2 e2)) e5)⟩
    · have hsz2 : (h'.update S (Obj.mapSeq (·.push (.ref s.heap.objs.size)))).objs.size = s.heap.objs.size + 1 := by rw [Heap.size_update, hsz]
      have at1 : ∀ (j : Nat) (T : Addr), (acc.push (.ref s.heap.objs.size))[j]? = some (.ref T) → (j = acc.size ∧ T = s.heap.objs.size) ∨ (j ≠ acc.size ∧ acc[j]? = some (.ref T)) := fun j T q => by
        by_cases hj : j = acc.size
        · subst hj
          rw [Array.getElem?_push_size] at q
          have q' := Option.some.inj q
          cases q'
          exact .inl ⟨rfl, rfl⟩
        · rw [Array.getElem?_push, if_neg hj] at q
          exact .inr ⟨hj, q⟩
      refine ⟨fun j T q => ?_, fun i' j' T U hij q1 q2 => ?_⟩
      · show T < (h'.update S _).objs.size
        rcases at1 j T q with ⟨_, e⟩ | ⟨_, e⟩
        · rw [e, hsz2]; exact Nat.lt_succ_self _
        · have := hris.1 j T e
          rw [hsz2]; exact Nat.lt_succ_of_lt this
      · rcases at1 i' T q1 with ⟨a1, a2⟩ | ⟨a1, a2⟩
        · rcases at1 j' U q2 with ⟨b1, b2⟩ | ⟨b1, b2⟩
          · omega
          · have hlt' : j' < acc.size := by
              rcases Nat.lt_or_ge j' acc.size with z | z
              · exact z
              · rw [Array.getElem?_eq_none z] at b2; cases b2
            omega
        · rcases at1 j' U q2 with ⟨b1, b2⟩ | ⟨b1, b2⟩
          · rw [b2]; exact hris.1 i' T a2
          · exact hris.2 i' j' T U hij a2 b2
    · intro h'' acc' c' hk'' hS'' hsz'' hp'' hr''
      exact hR h'' acc' c' (fun b o b1 b2 b3 b4 b5 q => hk'' b o b1 b2 b3 b4 b5 (oth b o b1 (hk' b o b2 b3 b4 b5 q))) hS'' hsz'' hp'' hr''
theorem call_list_zp {Q : Value → Shared → Prop} {z TI TO i1 i2 l1 l2 : Addr} {xs ys : Array Value} (hh : A.handled = none) (D : ZipApart z TI TO i1 i2 l1 l2) (hne : xs.size = ys.size) (hz : IsZip s.heap z TI TO .none) (hTI : IsPair s.heap TI (.ref i1) (.ref i2)) (hTO : IsPair s.heap TO .none .none)
    (h1 : s.heap.IsListIter i1 l1 0) (h2 : s.heap.IsListIter i2 l2 0) (hl1 : s.heap.IsList l1 xs) (hl2 : s.heap.IsList l2 ys) (hn : xs.size ≤ sizeLine)
    (hQ : ∀ h' acc' c', (∀ b o, b ≠ z → b ≠ TO → b ≠ i1 → b ≠ i2 → s.heap.get? b = some o → h'.get? b = some o) →
      h'.get? s.heap.objs.size = some { cls := .type "list", dict := none, data := .seq acc' c', slots := #[] } → acc'.size = xs.size →
      (∀ (j : Nat) (u : Value), acc'[j]? = some u → ∃ (T : Addr) (x y : Value), u = .ref T ∧ s.heap.objs.size + 1 ≤ T ∧ xs[j]? = some x ∧ ys[j]? = some y ∧ h'.get? T = some { cls := .type "tuple", data := .seq #[x, y] }) → (∀ (i j : Nat) (T U : Addr), i < j → acc'[i]? = some (.ref T) → acc'[j]? = some (.ref U) → T < U) → Q (.ref s.heap.objs.size) { s with heap := h' }) :
    wpAny (model prog w) A (call (.type "list") [.ref z]) Q E s := by
  have lz : z < s.heap.objs.size := Heap.lt_size hz
  have lI : TI < s.heap.objs.size := Heap.lt_size hTI
  have lO : TO < s.heap.objs.size := Heap.lt_size hTO
  have li1 : i1 < s.heap.objs.size := by obtain ⟨_, q, _⟩ := h1; exact Heap.lt_size q
  have li2 : i2 < s.heap.objs.size := by obtain ⟨_, q, _⟩ := h2; exact Heap.lt_size q
  have ll1 : l1 < s.heap.objs.size := by obtain ⟨_, q, _⟩ := hl1; exact Heap.lt_size q
  have ll2 : l2 < s.heap.objs.size := by obtain ⟨_, q, _⟩ := hl2; exact Heap.lt_size q
  refine call_list_it (T := "zip") (by decide) (by decide) FF.zip_no_len FF.zip_no_hint lz (fun s2 k => ⟨_, k z _ (Nat.ne_of_lt lz) hz, rfl⟩) (fun s2 A2 E2 Q2 k q => wpAny_pyIter_zip (k z _ (Nat.ne_of_lt lz) hz) q) fun hp2 c k hsz hS => ?_
  refine zp_loop (A := A.in1) (base := s.heap.objs.size + 1) (xs := xs) (ys := ys) (l1 := l1) (l2 := l2) (TI := TI) (TO := TO) (i1 := i1) (i2 := i2) hh D hne (Nat.ne_of_gt lz) (Nat.ne_of_gt lI) (Nat.ne_of_gt lO) (Nat.ne_of_gt li1) (Nat.ne_of_gt li2) (Nat.ne_of_lt ll1) (Nat.ne_of_lt ll2)
    (Nat.lt_succ_of_lt lz) (Nat.lt_succ_of_lt lO) (Nat.lt_succ_of_lt li1) (Nat.lt_succ_of_lt li2) (Nat.lt_succ_self _) hn .none _ 0 { s with heap := hp2 } #[] c rfl (Nat.zero_le _) (by show _ ≤ hp2.objs.size; omega)
    (.inl ⟨k z _ (Nat.ne_of_lt lz) hz, _, _, k TO _ (Nat.ne_of_lt lO) hTO⟩) (k TI _ (Nat.ne_of_lt lI) hTI) (h1.at fun o q => k i1 o (Nat.ne_of_lt li1) q) (h2.at fun o q => k i2 o (Nat.ne_of_lt li2) q) (hl1.at fun o q => k l1 o (Nat.ne_of_lt ll1) q) (hl2.at fun o q => k l2 o (Nat.ne_of_lt ll2) q) hS rfl
    (fun j u q => by simp at q) ⟨fun j T q => by simp at q, fun i j T U _ q => by simp at q⟩ fun h' acc' c' k' hS' hz' hp hr => ?_
  exact ⟨rfl, hQ h' acc' c' (fun b o b1 b2 b3 b4 q => k' b o (Nat.ne_of_lt (Heap.lt_size q)) b1 b2 b3 b4 (k b o (Nat.ne_of_lt (Heap.lt_size q)) q)) hS' hz' hp hr⟩
end
/-- list(zip(a, b)), two lists of one length: a new list of new pairs -/
def tListZip (K : PySem.W.Frag) (ta : TA) : TE := fun σ H Q => ta σ H fun vs H1 => ∃ a b xs ys, vs = [.ref a, .ref b] ∧ SqL K H1 a xs ∧ SqL K H1 b ys ∧ xs.length = ys.length ∧ ∀ (H' : Hp) (l : Addr) (ts : List Addr), Same H1 H' → H1 l = none → H' l = some (.lst (ts.map V.ref)) → ts.length = xs.length →
  (∀ (j : Nat) (t : Addr), ts[j]? = some t → H' t = some (.tup [xs.getD j .non, ys.getD j .non])) → Q (.ref l) H'
theorem pe_list_zip {X : Cx} {e e2 : Expr} {ta : TA} {p p' pos pos' : Pos} (hc : X.calm = true) (hg : Gl X "list") (hm : X.mg "list" = none) (hg' : Gl X "zip") (hm' : X.mg "zip" = none) (ha : PA X [e, e2] ta) (hs : starEach [e, e2] X.env = (false, eval e X.env) :: starEach [e2] X.env := by rfl) (hpl : (backTo pos' (starEach [e2] X.env)).any (·.1) = false := by rfl)
    (hs2 : starEach [.Call (.Name "zip" p') [e, e2] [] pos'] X.env = [(false, eval (.Call (.Name "zip" p') [e, e2] [] pos') X.env)] := by rfl) :
    PE X (.Call (.Name "list" p) [.Call (.Name "zip" p') [e, e2] [] pos'] [] pos) (tListZip X.K ta) := by
  intro pins s σ H Q I h
  refine Call_ (ld_blt I hg hm boot_list_ty (PyProof.Rows.callWith_type1 ?_ hs2 rfl))
  rw [hs2]
  show wpAny _ _ (spliced ((false, eval (.Call (.Name "zip" p') [e, e2] [] pos') X.env) :: backTo pos (starEach [] X.env))) _ _ s
  refine Calls.spliced_cons ?_
  refine Call_ (ld_blt I hg' hm' boot_zip5 (PyProof.Rows.callWith_type1 (thn (ha pos' pins s σ H _ I h) fun us s1 ⟨vs, H1, I1, r1, q1⟩ => ?_) hs hpl))
  obtain ⟨a, b, xs, ys, ex, hqx, hqy, hlen, q⟩ := q1
  subst ex
  cases r1 with
  | cons r rr =>
    cases rr with
    | cons r' rr =>
      cases rr
      cases r
      cases r'
      obtain ⟨its, rv, p1, hz1⟩ := I1.list hqx
      obtain ⟨its2, rv2, p2, hz2⟩ := I1.list hqy
      have hal : a < s1.heap.objs.size := by obtain ⟨_, z, _⟩ := p1.isList; exact Heap.lt_size z
      have hbl : b < s1.heap.objs.size := by obtain ⟨_, z, _⟩ := p2.isList; exact Heap.lt_size z
      have e1 := rv.length
      have e2 := rv2.length
      refine call_zip_2 p1.isList p2.isList fun h' hz hTI hTO hi1 hi2 hsz hk => Calls.spliced_nil ?_
      have D : ZipApart (s1.heap.objs.size + 4) (s1.heap.objs.size + 2) (s1.heap.objs.size + 3) s1.heap.objs.size (s1.heap.objs.size + 1) a b := by
        have ga : ∀ n, a ≠ s1.heap.objs.size + n := fun n => Nat.ne_of_lt (Nat.lt_of_lt_of_le hal (Nat.le_add_right _ _))
        have gb : ∀ n, b ≠ s1.heap.objs.size + n := fun n => Nat.ne_of_lt (Nat.lt_of_lt_of_le hbl (Nat.le_add_right _ _))
        have nn : ∀ (m n : Nat), m ≠ n → s1.heap.objs.size + m ≠ s1.heap.objs.size + n := fun m n h z => h (Nat.add_left_cancel z)
        exact ⟨nn 2 4 (by decide), nn 3 4 (by decide), nn 0 4 (by decide), nn 1 4 (by decide), nn 2 3 (by decide), nn 2 0 (by decide), nn 2 1 (by decide), nn 3 0 (by decide), nn 3 1 (by decide), nn 0 1 (by decide), ga 4, ga 3, ga 0, ga 1, gb 4, gb 3, gb 0, gb 1⟩
      refine call_list_zp (s := { s1 with heap := h' }) (xs := its.toArray) (ys := its2.toArray) (I1.ok.hd hc) D (by rw [List.size_toArray, List.size_toArray]; omega) hz hTI hTO hi1 hi2 (p1.isList.at fun o z => hk a o z) (p2.isList.at fun o z => hk b o z) (by rw [List.size_toArray]; omega) fun h'' acc c k2 hS hsz2 hp hr => ?_
      have hS1 : s1.heap.objs.size ≤ h'.objs.size := by rw [hsz]; exact Nat.le_add_right _ _
      obtain ⟨H', ts, I', sm, nl, hl', tl, fr, ct⟩ := I1.newPairs (t' := s1.toks) (h' := h'') (S := h'.objs.size) (acc := acc) (f := fun j => [xs.getD j .non, ys.getD j .non])
        (fun c u z => by
          have hlt := Heap.lt_size z
          exact k2 c u (Nat.ne_of_lt (Nat.lt_of_lt_of_le hlt (Nat.le_add_right _ _))) (Nat.ne_of_lt (Nat.lt_of_lt_of_le hlt (Nat.le_add_right _ _))) (Nat.ne_of_lt hlt) (Nat.ne_of_lt (Nat.lt_of_lt_of_le hlt (Nat.le_add_right _ _))) (hk c u z)) hS1 hS (by rw [hsz2, List.size_toArray]; omega)
        (fun j u z => by
          obtain ⟨T, x, y, a1, a2, a3, a4, a5⟩ := hp j u z
          rw [List.getElem?_toArray] at a3 a4
          have hjl : j < xs.length := by rw [e1]; exact (List.getElem?_eq_some_iff.mp a3).1
          have hjl2 : j < ys.length := by omega
          obtain ⟨x', ex', rx⟩ := rv.get (x := xs[j]) (i := j) (by simp [hjl])
          obtain ⟨y', ey', ry⟩ := rv2.get (x := ys[j]) (i := j) (by simp [hjl2])
          rw [a3] at ex'
          cases ex'
          rw [a4] at ey'
          cases ey'
          refine ⟨T, [x, y], a1, a2, .cons ?_ (.cons ?_ .nil), Nat.le_refl _, a5⟩
          · simpa [hjl] using rx
          · simpa [hjl2] using ry)
        (fun i j T z1 z2 => by
          rcases Nat.lt_trichotomy i j with w | w | w
          · exact absurd (hr i j T T w z1 z2) (Nat.lt_irrefl _)
          · exact w
          · exact absurd (hr j i T T w z2 z1) (Nat.lt_irrefl _))
      exact ⟨.ref h'.objs.size, H', I', rfl, q H' h'.objs.size ts sm nl hl' (by rw [tl, hsz2, List.size_toArray, e1]) ct⟩
section
variable {prog : Program} {w : World} {A : Around} {E : Value → Shared → Prop} {s : Shared}
end
end L2

set_option Elab.async false
set_option linter.all false
set_option maxRecDepth 100000
set_option maxHeartbeats 4000000
namespace L2
open PySem PySem.Spec PyProof.Rows
abbrev vl (ns : List Int) (i : Nat) : Int := ns.getD i 0
structure IsReach (ns : List Int) (i b e : Nat) : Prop where
  bi : b ≤ i
  ie : i < e
  en : e ≤ ns.length
  bg : ∀ j, b ≤ j → j < i → vl ns i < vl ns j
  b0 : b = 0 ∨ vl ns (b - 1) ≤ vl ns i
  eg : ∀ j, i ≤ j → j < e → vl ns i ≤ vl ns j
  e0 : e = ns.length ∨ vl ns e < vl ns i
theorem IsReach.uniq {ns : List Int} {i b e b' e' : Nat} (h : IsReach ns i b e) (h' : IsReach ns i b' e') : b = b' ∧ e = e' := by
  constructor
  · rcases Nat.lt_trichotomy b b' with z | z | z
    · rcases h'.b0 with q | q
      · omega
      · have := h.bg (b' - 1) (by omega) (by have := h'.bi; omega)
        omega
    · exact z
    · rcases h.b0 with q | q
      · omega
      · have := h'.bg (b - 1) (by omega) (by have := h.bi; omega)
        omega
  · rcases Nat.lt_trichotomy e e' with z | z | z
    · rcases h.e0 with q | q
      · have := h'.en; omega
      · have := h'.eg e (by have := h.ie; omega) z
        omega
    · exact z
    · rcases h'.e0 with q | q
      · have := h.en; omega
      · have := h.eg e' (by have := h'.ie; omega) z
        omega
/-- the reaches of all places -/
def AreReaches (ns : List Int) (ps : List (Int × Int)) : Prop := ps.length = ns.length ∧ ∀ (i : Nat) (p : Int × Int), ps[i]? = some p → ∃ b e : Nat, p = ((b : Int), (e : Int)) ∧ IsReach ns i b e
theorem AreReaches.uniq {ns : List Int} {ps qs : List (Int × Int)} (h : AreReaches ns ps) (h' : AreReaches ns qs) : ps = qs := by
  apply List.ext_getElem?
  intro i
  by_cases hi : i < ns.length
  · have hp : ps[i]? = some (ps[i]'(by rw [h.1]; exact hi)) := List.getElem?_eq_getElem _
    have hq : qs[i]? = some (qs[i]'(by rw [h'.1]; exact hi)) := List.getElem?_eq_getElem _
    obtain ⟨b, e, e1, r⟩ := h.2 i _ hp
    obtain ⟨b', e', e1', r'⟩ := h'.2 i _ hq
    obtain ⟨z1, z2⟩ := r.uniq r'
    rw [hp, hq, e1, e1', z1, z2]
  · rw [List.getElem?_eq_none (by rw [h.1]; omega), List.getElem?_eq_none (by rw [h'.1]; omega)]
structure Stk (ns : List Int) (m : Nat) (top : Nat) (ws es : List Nat) : Prop where
  lenE : es.length = ns.length
  mn : m ≤ ns.length
  inc : ws.Pairwise (· < ·)
  lt : ∀ j ∈ ws, j < m
  gone : ∀ j, j < m → j ∉ ws → ∃ k, es[j]? = some k ∧ j < k ∧ k < top ∧ vl ns k < vl ns j ∧ ∀ i, j ≤ i → i < k → vl ns j ≤ vl ns i
  wait : ∀ j ∈ ws, es[j]? = some ns.length ∧ ∀ i, j ≤ i → i < m → vl ns j ≤ vl ns i
  rest : ∀ j, m ≤ j → j < ns.length → es[j]? = some ns.length
theorem Stk.start (ns : List Int) : Stk ns 0 0 [] (List.replicate ns.length ns.length) where
  lenE := List.length_replicate
  mn := Nat.zero_le _
  inc := .nil
  lt := fun j hj => nomatch hj
  gone := fun j hj => absurd hj (Nat.not_lt_zero _)
  wait := fun j hj => nomatch hj
  rest := fun j _ hj => by rw [List.getElem?_replicate, if_pos hj]
theorem Stk.mono {ns : List Int} {m t t' : Nat} {ws es : List Nat} (h : Stk ns m t ws es) (ht : t ≤ t') : Stk ns m t' ws es :=
  ⟨h.lenE, h.mn, h.inc, h.lt, fun j hj hn => by obtain ⟨k, a, b, c, d⟩ := h.gone j hj hn; exact ⟨k, a, b, by omega, d⟩, h.wait, h.rest⟩
/-- a waiting place that is greater than the number at m goes -/
theorem Stk.pop {ns : List Int} {m w : Nat} {ws es : List Nat} (h : Stk ns m (m + 1) (ws ++ [w]) es) (hm : m < ns.length) (hv : vl ns m < vl ns w) : Stk ns m (m + 1) ws (es.set w m) := by
  have hinc := List.pairwise_append.mp h.inc
  have hwm := h.lt w (by simp)
  have hwE : w < es.length := by rw [h.lenE]; omega
  refine ⟨by rw [List.length_set]; exact h.lenE, h.mn, hinc.1, fun j hj => h.lt j (by simp [hj]), fun j hj hn => ?_, fun j hj => ?_, fun j hj hl => ?_⟩
  · by_cases e : j = w
    · subst e
      refine ⟨m, by rw [List.getElem?_set_self hwE], hj, Nat.lt_succ_self _, hv, (h.wait j (by simp)).2⟩
    · obtain ⟨k, a, r⟩ := h.gone j hj (by simp [hn, e])
      exact ⟨k, by rw [List.getElem?_set_ne (fun z => e z.symm)]; exact a, r⟩
  · have hlt := hinc.2.2 j hj w (by simp)
    obtain ⟨a, b⟩ := h.wait j (by simp [hj])
    exact ⟨by rw [List.getElem?_set_ne (by omega)]; exact a, b⟩
  · rw [List.getElem?_set_ne (by omega)]; exact h.rest j hj hl
/-- where the reach of m begins -/
def bgn (ws : List Nat) : Nat := match ws.getLast? with | some w => w + 1 | none => 0
theorem Stk.beg {ns : List Int} {m : Nat} {ws es : List Nat} (h : Stk ns m (m + 1) ws es) (hm : m < ns.length) (hv : ∀ w, ws.getLast? = some w → vl ns w ≤ vl ns m) :
    bgn ws ≤ m ∧ (∀ j, bgn ws ≤ j → j < m → vl ns m < vl ns j) ∧ (bgn ws = 0 ∨ vl ns (bgn ws - 1) ≤ vl ns m) := by
  have hb : bgn ws ≤ m ∧ (∀ j, bgn ws ≤ j → j ∉ ws) ∧ (bgn ws = 0 ∨ vl ns (bgn ws - 1) ≤ vl ns m) := by
    cases e : ws.getLast? with
    | none =>
      have : ws = [] := List.getLast?_eq_none_iff.mp e
      have eb : bgn ws = 0 := by unfold bgn; rw [e]
      rw [eb]
      exact ⟨Nat.zero_le _, fun j _ => by rw [this]; simp, .inl rfl⟩
    | some w =>
      have eb : bgn ws = w + 1 := by unfold bgn; rw [e]
      obtain ⟨ys, hys⟩ := List.getLast?_eq_some_iff.mp e
      have hw : w ∈ ws := by rw [hys]; simp
      have hwm := h.lt w hw
      rw [eb]
      refine ⟨hwm, fun j hj hm' => ?_, .inr (by simpa using hv w e)⟩
      rw [hys] at hm'
      rcases List.mem_append.mp hm' with z | z
      · have hi := h.inc
        rw [hys] at hi
        have := (List.pairwise_append.mp hi).2.2 j z w (by simp)
        omega
      · have : j = w := by simpa using z
        omega
  refine ⟨hb.1, ?_, hb.2.2⟩
  have key : ∀ (d j : Nat), m - j ≤ d → bgn ws ≤ j → j < m → vl ns m < vl ns j := by
    intro d
    induction d with
    | zero => intro j hd _ hj; omega
    | succ d ih =>
      intro j hd hj1 hj2
      obtain ⟨k, _, hk1, hk2, hk3, _⟩ := h.gone j hj2 (hb.2.1 j hj1)
      by_cases e : k = m
      · rw [← e]; exact hk3
      · have := ih k (by omega) (by omega) (by omega)
        omega
  exact fun j => key (m - j) j (Nat.le_refl _)
/-- m waits -/
theorem Stk.push {ns : List Int} {m : Nat} {ws es : List Nat} (h : Stk ns m (m + 1) ws es) (hm : m < ns.length) (hv : ∀ w, ws.getLast? = some w → vl ns w ≤ vl ns m) : Stk ns (m + 1) (m + 1) (ws ++ [m]) es := by
  refine ⟨h.lenE, hm, ?_, fun j hj => ?_, fun j hj hn => ?_, fun j hj => ?_, fun j hj hl => h.rest j (by omega) hl⟩
  · exact List.pairwise_append.mpr ⟨h.inc, List.pairwise_singleton _ _, fun a ha b hb => by
      have h1 := h.lt a ha
      have h2 : b = m := (by simpa using hb)
      omega⟩
  · rcases List.mem_append.mp hj with z | z
    · have := h.lt j z; omega
    · have : j = m := by simpa using z
      omega
  · have hn' : j ∉ ws ∧ j ≠ m := by simpa using hn
    exact h.gone j (by omega) hn'.1
  · rcases List.mem_append.mp hj with z | z
    · obtain ⟨a, b⟩ := h.wait j z
      refine ⟨a, fun i h1 h2 => ?_⟩
      rcases Nat.lt_succ_iff_lt_or_eq.mp h2 with q | q
      · exact b i h1 q
      · subst q
        cases e : ws.getLast? with
        | none => rw [List.getLast?_eq_none_iff.mp e] at z; cases z
        | some w =>
          have hw := hv w e
          obtain ⟨ys, hys⟩ := List.getLast?_eq_some_iff.mp e
          have hjw : j ≤ w := by
            rw [hys] at z
            rcases List.mem_append.mp z with q | q
            · have hi := h.inc
              rw [hys] at hi
              have := (List.pairwise_append.mp hi).2.2 j q w (by simp)
              omega
            · have : j = w := by simpa using q
              omega
          have hwm := h.lt w (by rw [hys]; simp)
          have := b w hjw hwm
          omega
    · have : j = m := by simpa using z
      subst this
      exact ⟨h.rest j (Nat.le_refl _) hm, fun i h1 h2 => by
        have e : i = j := (by omega)
        rw [e]; exact Int.le_refl _⟩
/-- the begins so far -/
def Begs (ns : List Int) (bs : List Nat) : Prop := ∀ (i b : Nat), bs[i]? = some b → b ≤ i ∧ (∀ j, b ≤ j → j < i → vl ns i < vl ns j) ∧ (b = 0 ∨ vl ns (b - 1) ≤ vl ns i)
theorem Begs.snoc {ns : List Int} {bs : List Nat} {b : Nat} (h : Begs ns bs) (hb : b ≤ bs.length ∧ (∀ j, b ≤ j → j < bs.length → vl ns bs.length < vl ns j) ∧ (b = 0 ∨ vl ns (b - 1) ≤ vl ns bs.length)) : Begs ns (bs ++ [b]) := by
  intro i c hc
  by_cases hi : i < bs.length
  · rw [List.getElem?_append_left hi] at hc
    exact h i c hc
  · rw [List.getElem?_append_right (by omega)] at hc
    have hi' : i - bs.length = 0 := by
      rcases Nat.eq_zero_or_pos (i - bs.length) with z | z
      · exact z
      · rw [List.getElem?_eq_none (by simp; omega)] at hc; cases hc
    rw [hi'] at hc
    have : b = c := by simpa using hc
    have hi2 : i = bs.length := by omega
    subst this hi2
    exact hb
theorem reaches_done {ns : List Int} {bs ws es : List Nat} (hb : Begs ns bs) (hl : bs.length = ns.length) (h : Stk ns ns.length ns.length ws es) : AreReaches ns (List.zipWith (fun (b e : Nat) => ((b : Int), (e : Int))) bs es) := by
  refine ⟨by rw [List.length_zipWith, hl, h.lenE]; exact Nat.min_self _, fun i p hp => ?_⟩
  rw [List.getElem?_zipWith] at hp
  cases e1 : bs[i]? with
  | none => rw [e1] at hp; simp at hp
  | some b =>
    cases e2 : es[i]? with
    | none => rw [e1, e2] at hp; simp at hp
    | some e =>
      rw [e1, e2] at hp
      have hp' : ((b : Int), (e : Int)) = p := by simpa using hp
      have hi : i < ns.length := by rw [← hl]; exact (List.getElem?_eq_some_iff.mp e1).1
      obtain ⟨b1, b2, b3⟩ := hb i b e1
      refine ⟨b, e, hp'.symm, ?_⟩
      by_cases hw : i ∈ ws
      · obtain ⟨w1, w2⟩ := h.wait i hw
        rw [e2] at w1
        have : e = ns.length := Option.some.inj w1
        subst this
        exact ⟨b1, hi, Nat.le_refl _, b2, b3, w2, .inl rfl⟩
      · obtain ⟨k, g1, g2, g3, g4, g5⟩ := h.gone i hi hw
        rw [e2] at g1
        have : e = k := Option.some.inj g1
        subst this
        exact ⟨b1, g2, by omega, b2, b3, g5, .inr g4⟩
abbrev nV (j : Nat) : V := .int (j : Int)
def PrAt (H : Hp) (ts : List Addr) (ps : List (Int × Int)) : Prop := ts.length = ps.length ∧ ∀ (j : Nat) (t : Addr) (p : Int × Int), ts[j]? = some t → ps[j]? = some p → H t = some (.tup [.int p.1, .int p.2])
theorem PrAt.same {H H' : Hp} {ts : List Addr} {ps : List (Int × Int)} (h : PrAt H ts ps) (s : Same H H') : PrAt H' ts ps := ⟨h.1, fun j t p h1 h2 => s _ _ (h.2 j t p h1 h2)⟩
theorem PrAt.at {H : Hp} {ts : List Addr} {ps : List (Int × Int)} {D : Addr} {xs ys : List V} (h : PrAt H ts ps) (hD : H D = some (.lst xs)) : PrAt (L2.upd H D (.lst ys)) ts ps := ⟨h.1, fun j t p h1 h2 => by
  have c := h.2 j t p h1 h2
  rw [upd_ne fun z => by rw [z, hD] at c; cases c]
  exact c⟩
theorem PrAt.but {H H' : Hp} {p : Addr} {ts : List Addr} {ps : List (Int × Int)} (h : PrAt H ts ps) (k : But p H H') (hh : Hand H p) : PrAt H' ts ps := ⟨h.1, fun j t q h1 h2 => by
  have c := h.2 j t q h1 h2
  refine k _ _ (fun z => ?_) c
  obtain ⟨d, e', hp, _⟩ := hh
  rw [z, hp] at c; cases c⟩
theorem PrAt.dpAll {K : PySem.W.Frag} {H : Hp} : ∀ {ts : List Addr} {ps : List (Int × Int)}, PrAt H ts ps → DpAll K H (ts.map V.ref) (ps.map prD)
  | [], [], _ => .nil
  | [], _ :: _, h => by have := h.1; simp at this
  | _ :: _, [], h => by have := h.1; simp at this
  | t :: ts, p :: ps, h => by
    have c := h.2 0 t p rfl rfl
    refine .cons (.tup (SqT.of c) (.cons (.int _) (.cons (.int _) .nil))) (PrAt.dpAll (ts := ts) (ps := ps) ⟨by have := h.1; simpa using this, fun j t' p' h1 h2 => h.2 (j + 1) t' p' (by simpa using h1) (by simpa using h2)⟩)
theorem PrAt.dp {K : PySem.W.Frag} {H : Hp} {a : Addr} {ts : List Addr} {ps : List (Int × Int)} (h : PrAt H ts ps) (ha : SqL K H a (ts.map V.ref)) : Dp K H (.ref a) (prsD ps) := .lst ha h.dpAll
theorem flat_one {α : Type} (k : Nat) (x : α) : (List.replicate k [x]).flatten = List.replicate k x := by
  induction k with
  | zero => rfl
  | succ k ih => rw [List.replicate_succ, List.flatten_cons, ih]; rfl
theorem Same.at {D : Addr} {H H' : Hp} {o : HO} (s : Same H H') (f : H D = none) : Same H (L2.upd H' D o) := fun b u e => by
  rw [upd_ne (ne_of_none e f)]; exact s b u e
theorem at_vl {ns : List Int} {i : Nat} (h : i < ns.length) : atI (ns.map V.int) ((i : Nat) : Int) = some (V.int (vl ns i)) := by
  have := at_int (ns := ns) (i := (i : Int)) (by omega) (by omega)
  simpa using this
theorem get_vl {ns : List Int} {i : Nat} {n : Int} (h : ns[i]? = some n) : n = vl ns i := by
  unfold vl
  rw [List.getD_eq_getElem?_getD, h]
  rfl
end L2

set_option Elab.async false
set_option linter.all false
set_option maxRecDepth 100000
set_option maxHeartbeats 4000000
namespace L2
open PySem PySem.Spec PyProof.Rows
def sumN : Nat → (Nat → Int) → Int
  | 0, _ => 0
  | n + 1, g => sumN n g + g n
theorem sumN_congr : ∀ {n : Nat} {g h : Nat → Int}, (∀ i, i < n → g i = h i) → sumN n g = sumN n h
  | 0, _, _, _ => rfl
  | n + 1, g, h, e => by
    show sumN n g + g n = sumN n h + h n
    rw [sumN_congr fun i hi => e i (by omega), e n (by omega)]
theorem sumN_zero : ∀ (n : Nat), sumN n (fun _ => 0) = 0
  | 0 => rfl
  | n + 1 => by show sumN n _ + 0 = 0; rw [sumN_zero n]; rfl
theorem sumN_add : ∀ (n : Nat) (g h : Nat → Int), sumN n (fun i => g i + h i) = sumN n g + sumN n h
  | 0, _, _ => rfl
  | n + 1, g, h => by
    show sumN n _ + (g n + h n) = (sumN n g + g n) + (sumN n h + h n)
    rw [sumN_add n g h]; omega
theorem sumN_comm : ∀ (n m : Nat) (g : Nat → Nat → Int), sumN n (fun i => sumN m (fun j => g i j)) = sumN m (fun j => sumN n (fun i => g i j))
  | 0, m, g => by show (0 : Int) = sumN m fun _ => 0; rw [sumN_zero]
  | n + 1, m, g => by
    show sumN n _ + sumN m (fun j => g n j) = sumN m (fun j => sumN n (fun i => g i j) + g n j)
    rw [sumN_add, sumN_comm n m g]
theorem sumN_between {n lo hi : Nat} (h1 : lo ≤ hi) (h2 : hi ≤ n) : sumN n (fun i => if lo ≤ i ∧ i < hi then 1 else 0) = (hi : Int) - lo := by
  induction n with
  | zero => show (0 : Int) = _; omega
  | succ n ih =>
    show sumN n (fun i => if lo ≤ i ∧ i < hi then 1 else 0) + (if lo ≤ n ∧ n < hi then 1 else 0) = _
    by_cases e : hi ≤ n
    · rw [ih e, if_neg (by omega)]; omega
    · have eh : hi = n + 1 := by omega
      have hc : sumN n (fun i => if lo ≤ i ∧ i < hi then 1 else 0) = sumN n (fun i => if lo ≤ i ∧ i < n then 1 else 0) := sumN_congr fun i hi' => by
        by_cases q : lo ≤ i
        · rw [if_pos ⟨q, by omega⟩, if_pos ⟨q, hi'⟩]
        · rw [if_neg (fun z => q z.1), if_neg (fun z => q z.1)]
      by_cases q : lo ≤ n
      · have : sumN n (fun i => if lo ≤ i ∧ i < n then 1 else 0) = (n : Int) - lo := by
          clear ih hc
          have go : ∀ m, lo ≤ m → sumN m (fun i => if lo ≤ i ∧ i < m then 1 else 0) = (m : Int) - lo := by
            intro m
            induction m with
            | zero => intro h; show (0 : Int) = _; omega
            | succ m ihm =>
              intro h
              show sumN m (fun i => if lo ≤ i ∧ i < m + 1 then 1 else 0) + (if lo ≤ m ∧ m < m + 1 then 1 else 0) = _
              by_cases q2 : lo ≤ m
              · rw [sumN_congr (h := fun i => if lo ≤ i ∧ i < m then 1 else 0) fun i hi' => by
                  by_cases q3 : lo ≤ i
                  · rw [if_pos ⟨q3, by omega⟩, if_pos ⟨q3, hi'⟩]
                  · rw [if_neg (fun z => q3 z.1), if_neg (fun z => q3 z.1)]]
                rw [ihm q2, if_pos ⟨q2, by omega⟩]; omega
              · rw [sumN_congr (h := fun _ => 0) fun i hi' => if_neg (by omega), sumN_zero, if_neg (by omega)]; omega
          exact go n q
        rw [hc, this, if_pos ⟨q, by omega⟩]; omega
      · have : sumN n (fun i => if lo ≤ i ∧ i < hi then 1 else 0) = 0 := by
          rw [sumN_congr (h := fun _ => 0) fun i hi' => if_neg (by omega), sumN_zero]
        rw [this, if_neg (by omega)]; omega
theorem holder {ns : List Int} {i bi ei b e : Nat} (h : IsReach ns i bi ei) (hb : b ≤ i) (he : i < e) (hn : e ≤ ns.length) :
    (bi ≤ b ∧ e ≤ ei) ↔ i = b + pl (seg ns (b : Int) (e : Int)) := by
  have st : IsSt ns.length (b : Int) (e : Int) := ⟨by omega, by omega, by omega⟩
  have sl := seg_len st
  have sg : ∀ j, j < e - b → (seg ns (b : Int) (e : Int))[j]? = some (vl ns (b + j)) := fun j hj => by
    rw [seg_get (by omega) (by omega)]
    have : (b : Int).toNat + j = b + j := by omega
    rw [this]
    unfold vl
    rw [List.getD_eq_getElem?_getD, List.getElem?_eq_getElem (by omega)]
    rfl
  constructor
  · rintro ⟨h1, h2⟩
    have hi : (seg ns (b : Int) (e : Int))[i - b]? = some (vl ns i) := by
      rw [sg (i - b) (by omega)]; congr 2; omega
    have hmin : minL (seg ns (b : Int) (e : Int)) = vl ns i := minL_uniq (List.mem_of_getElem? hi) fun y hy => by
      obtain ⟨j, hj⟩ := List.getElem?_of_mem hy
      have hjl : j < e - b := by have := (List.getElem?_eq_some_iff.mp hj).1; omega
      rw [sg j hjl] at hj
      have : vl ns (b + j) = y := Option.some.inj hj
      rw [← this]
      by_cases q : b + j < i
      · have := h.bg (b + j) (by omega) q; omega
      · exact h.eg (b + j) (by omega) (by omega)
    have hp : pl (seg ns (b : Int) (e : Int)) = i - b := by
      unfold pl
      rw [hmin]
      refine fst_uniq hi fun m z hm hz => ?_
      rw [sg m (by omega)] at hz
      have : vl ns (b + m) = z := Option.some.inj hz
      have := h.bg (b + m) (by omega) (by omega)
      omega
    omega
  · intro hp
    obtain ⟨f1, f2, f3⟩ := fst_at (minL_spec (seg_ne st)).1
    have hpl : pl (seg ns (b : Int) (e : Int)) = i - b := by omega
    unfold pl at hpl
    rw [hpl] at f1 f3
    have hmin : minL (seg ns (b : Int) (e : Int)) = vl ns i := by
      rw [sg (i - b) (by omega)] at f1
      have := Option.some.inj f1
      rw [← this]; congr 1; omega
    have all := (minL_spec (seg_ne st)).2
    rw [hmin] at all f3
    have ge : ∀ j, b ≤ j → j < e → vl ns i ≤ vl ns j := fun j h1 h2 => all _ (List.mem_of_getElem? (by rw [sg (j - b) (by omega)]; congr 2; omega))
    have gt : ∀ j, b ≤ j → j < i → vl ns i < vl ns j := fun j h1 h2 => by
      have := ge j h1 (by omega)
      have := f3 (j - b) (vl ns j) (by omega) (by rw [sg (j - b) (by omega)]; congr 2; omega)
      omega
    constructor
    · rcases h.b0 with q | q
      · omega
      · rcases Nat.lt_or_ge b bi with z | z
        · have := gt (bi - 1) (by omega) (by have := h.bi; omega); omega
        · exact z
    · rcases h.e0 with q | q
      · omega
      · rcases Nat.lt_or_ge ei e with z | z
        · have := ge ei (by have := h.ie; omega) z; omega
        · exact z
end L2

set_option Elab.async false
set_option linter.all false
set_option maxRecDepth 100000
set_option maxHeartbeats 4000000
namespace L2
open PySem PySem.Spec PyProof.Rows
def dd (ns : List Int) : Nat := (PyProof.Rows.firstMet (fun i => ns.getD i 0) ns.length).length
section
variable {X : Cx}
end
theorem vl_map {f : Int → Int} {ns : List Int} {i : Nat} (h : i < ns.length) : vl (ns.map f) i = f (vl ns i) := by
  unfold vl
  rw [List.getD_eq_getElem?_getD, List.getD_eq_getElem?_getD, List.getElem?_map, List.getElem?_eq_getElem h]
  rfl
theorem IsReach.map {f : Int → Int} (hf : ∀ x y, f x < f y ↔ x < y) {ns : List Int} {i b e : Nat} (h : IsReach ns i b e) : IsReach (ns.map f) i b e := by
  have hie := h.ie; have hen := h.en; have hbi := h.bi
  have hle : ∀ x y, f x ≤ f y ↔ x ≤ y := fun x y => by
    have := hf y x
    constructor <;> intro q <;> omega
  refine ⟨hbi, hie, by rw [List.length_map]; exact hen, fun j h1 h2 => ?_, ?_, fun j h1 h2 => ?_, ?_⟩
  · rw [vl_map (by omega), vl_map (by omega)]; exact (hf _ _).mpr (h.bg j h1 h2)
  · rcases h.b0 with q | q
    · exact .inl q
    · right; rw [vl_map (by omega), vl_map (by omega)]; exact (hle _ _).mpr q
  · rw [vl_map (by omega), vl_map (by omega)]; exact (hle _ _).mpr (h.eg j h1 h2)
  · rcases h.e0 with q | q
    · left; rw [List.length_map]; exact q
    · by_cases z : e = ns.length
      · left; rw [List.length_map]; exact z
      · right; rw [vl_map (by omega), vl_map (by omega)]; exact (hf _ _).mpr q
theorem AreReaches.map {f : Int → Int} (hf : ∀ x y, f x < f y ↔ x < y) {ns : List Int} {ps : List (Int × Int)} (h : AreReaches ns ps) : AreReaches (ns.map f) ps :=
  ⟨by rw [List.length_map]; exact h.1, fun i p hp => let ⟨b, e, e1, r⟩ := h.2 i p hp; ⟨b, e, e1, r.map hf⟩⟩
theorem vl_seg {ns : List Int} {b e : Nat} {j : Nat} (h : j < e - b) : vl (seg ns (b : Int) (e : Int)) j = vl ns (b + j) := by
  unfold vl
  rw [List.getD_eq_getElem?_getD, List.getD_eq_getElem?_getD, seg_get (by omega) (by omega)]
  have : (b : Int).toNat + j = b + j := by omega
  rw [this]
end L2

set_option Elab.async false
set_option linter.all false
set_option maxRecDepth 100000
set_option maxHeartbeats 4000000
namespace L2
open PySem PySem.Spec PyProof.Rows
theorem PrAt.snoc {H : Hp} {ts : List Addr} {ps : List (Int × Int)} {t : Addr} {p : Int × Int} (h : PrAt H ts ps) (ht : H t = some (.tup [.int p.1, .int p.2])) : PrAt H (ts ++ [t]) (ps ++ [p]) := by
  refine ⟨by rw [List.length_append, List.length_append, h.1]; rfl, fun j t' p' h1 h2 => ?_⟩
  rcases Nat.lt_trichotomy j ts.length with z | z | z
  · rw [List.getElem?_append_left z] at h1
    rw [List.getElem?_append_left (by rw [← h.1]; exact z)] at h2
    exact h.2 j t' p' h1 h2
  · subst z
    rw [List.getElem?_append_right (Nat.le_refl _), Nat.sub_self] at h1
    rw [h.1, List.getElem?_append_right (Nat.le_refl _), Nat.sub_self] at h2
    have e1 : t = t' := by simpa using h1
    have e2 : p = p' := by simpa using h2
    subst e1 e2
    exact ht
  · rw [List.getElem?_eq_none (by rw [List.length_append, List.length_singleton]; omega)] at h1
    cases h1
theorem get_refs {ts : List Addr} {k : Nat} {x : V} (h : (ts.map V.ref)[k]? = some x) : ∃ t, ts[k]? = some t ∧ x = .ref t := by
  rw [List.getElem?_map] at h
  cases e : ts[k]? with
  | none => rw [e] at h; cases h
  | some t => rw [e] at h; exact ⟨t, rfl, (Option.some.inj h).symm⟩
end L2

set_option Elab.async false
set_option linter.all false
set_option maxRecDepth 100000
set_option maxHeartbeats 4000000
namespace L2
open PySem PySem.Spec PyProof.Rows
theorem sumN_from : ∀ (n b : Nat) (h : Nat → Int), sumN n (fun e => if b ≤ e then h e else 0) = sumN (n - b) fun j => h (b + j)
  | 0, b, h => by rw [Nat.zero_sub]; rfl
  | n + 1, b, h => by
    show sumN n (fun e => if b ≤ e then h e else 0) + (if b ≤ n then h n else 0) = _
    rw [sumN_from n b h]
    by_cases z : b ≤ n
    · have e1 : n + 1 - b = (n - b) + 1 := by omega
      have e2 : b + (n - b) = n := by omega
      rw [e1, if_pos z]
      show _ = sumN (n - b) _ + h (b + (n - b))
      rw [e2]
    · have e1 : n + 1 - b = 0 := by omega
      have e2 : n - b = 0 := by omega
      rw [e1, e2, if_neg z]; rfl
def sumSt (ns : List Int) (g : List Int → Int) : Int := sumN ns.length fun b => sumN (ns.length - b) fun j => g (seg ns (b : Int) ((b + j + 1 : Nat) : Int))
theorem least_at {ns : List Int} {b e : Nat} (h : b < e) (he : e ≤ ns.length) : vl ns (b + pl (seg ns (b : Int) (e : Int))) = minL (seg ns (b : Int) (e : Int)) := by
  have st : IsSt ns.length (b : Int) (e : Int) := ⟨by omega, by omega, by omega⟩
  obtain ⟨f1, f2, f3⟩ := fst_at (minL_spec (seg_ne st)).1
  have sl := seg_len st
  have hp : pl (seg ns (b : Int) (e : Int)) < e - b := by unfold pl; omega
  rw [← vl_seg (e := e) hp]
  unfold vl pl
  rw [List.getD_eq_getElem?_getD, f1]; rfl
theorem seg_one {ns : List Int} {b : Nat} (h : b < ns.length) : seg ns (b : Int) ((b + 1 : Nat) : Int) = [vl ns b] := by
  have st : IsSt ns.length (b : Int) ((b + 1 : Nat) : Int) := ⟨by omega, by omega, by omega⟩
  have sl := seg_len st
  have h0 := vl_seg (ns := ns) (b := b) (e := b + 1) (j := 0) (by omega)
  match hs : seg ns (b : Int) ((b + 1 : Nat) : Int), sl with
  | [], sl => simp at sl
  | [x], _ => rw [hs] at h0; have : x = vl ns b := h0; rw [this]
  | _ :: _ :: _, sl => simp at sl
end L2

set_option Elab.async false
set_option linter.all false
set_option maxRecDepth 100000
set_option maxHeartbeats 4000000
namespace L2
open PySem PySem.Spec PyProof.Rows
theorem sumN_const (n : Nat) (c : Int) : sumN n (fun _ => c) = (n : Int) * c := by
  induction n with
  | zero => simp [sumN]
  | succ n ih =>
    show sumN n _ + c = _
    rw [ih, show ((n + 1 : Nat) : Int) = (n : Int) + 1 from by omega, Int.add_mul, Int.one_mul]
/-- by begins and last places -/
def F2 (ns : List Int) (g : List Int → Int) (b e : Nat) : Int := if b ≤ e then g (seg ns (b : Int) ((e + 1 : Nat) : Int)) else 0
theorem sumSt_F2 (ns : List Int) (g : List Int → Int) : sumSt ns g = sumN ns.length fun b => sumN ns.length fun e => F2 ns g b e := by
  unfold sumSt F2
  refine sumN_congr fun b hb => ?_
  rw [sumN_from]
theorem minL_turn {l : List Int} (h : l ≠ []) : minL l.reverse = minL l := minL_uniq (List.mem_reverse.mpr (minL_spec h).1) fun y hy => (minL_spec h).2 y (List.mem_reverse.mp hy)
theorem maxL_turn {l : List Int} (h : l ≠ []) : maxL l.reverse = maxL l := maxL_uniq (List.mem_reverse.mpr (maxL_spec h).1) fun y hy => (maxL_spec h).2 y (List.mem_reverse.mp hy)
end L2

set_option Elab.async false
set_option linter.all false
set_option maxRecDepth 100000
set_option maxHeartbeats 4000000
namespace L2
open PySem PySem.Spec PyProof.Rows
section
variable {X : Cx} {tg : Expr}
end
end L2

set_option Elab.async false
set_option linter.all false
set_option maxRecDepth 100000
set_option maxHeartbeats 4000000
namespace L2
open PySem PySem.Spec PyProof.Rows

/-- the code object that runs: all that a generator expression wants of it -/
def CodeK (P : Program) (K : PySem.W.Frag) (mg : Str → Option Value) (cdv : Value) : Prop :=
  ∃ (c Pt : Addr) (oc : Obj) (vs : Array Value) (file : Str) (tf : Tok) (flags : Int) (tg : Tok) (inF : Bool) (text : Int) (tt : Tok), cdv = .ref c ∧ TabOf P K mg Pt ∧ K.lookup c = some oc ∧ oc.cls = .type "code" ∧ oc.data = .fields vs ∧
    vs.getD 11 .none = .ref Pt ∧ vs[11]? = some (.ref Pt) ∧ vs.getD 18 .none = .str file tf ∧ vs.getD 7 .none = .int flags tg ∧ vs.getD 9 .none = .bool inF ∧ vs.getD 10 .none = .int text tt
section
variable {X : Cx} {pins : List (Addr × Obj)} {σ : St} {H : Hp} {s : Shared}
theorem Inv.tabs (I : Inv X pins σ H s) : Tabs X.prog X.K X.mg H := I.ok.tb.un I.base

theorem gen_code {M : Model} {A : Around} {E : Value → Shared → Prop} {pos : Pos} {qual : Str} {scope : Scope} {Q : Value → Shared → Prop} (I : Inv X pins σ H s) (ck : CodeK X.prog X.K X.mg X.env.code)
    (hQ : ∀ code h' tk H', Inv X pins σ H' { s with heap := h', toks := tk } → Same H H' → (∀ b, H b = none → H' b = none) → (∀ b o, s.heap.get? b = some o → o.cls ≠ .none → h'.get? b = some o) → s.heap.objs.size ≤ h'.objs.size → Q code { s with heap := h', toks := tk }) :
    wpAny M A (genexprCode X.env pos qual scope) Q E s := by
  obtain ⟨c, Pt, oc, vs, file, tf, flags, tg, inF, text, tt, ec, tb, lk, hcl, hd, h11, h11', h18, h7, h9, h10⟩ := ck
  obtain ⟨ps, hps⟩ := I.tabs Pt tb
  have hob : s.heap.get? Pt = some { cls := .none, data := .fields ps } ∧ TriplesOk ps.toList := I.hok Pt _ hps
  obtain ⟨hP, htr⟩ := hob
  have hc := I.kIn c oc lk
  have hcn : H c = none := (I.bs c oc (I.mod.kin c oc lk)).2
  have ne : c ≠ Pt := fun z => by rw [z, hps] at hcn; cases hcn
  have code : s.heap.IsCode c Pt ps := ⟨oc, vs, file, tf, flags, tg, inF, text, tt, _, hc, hd, h11, h18, h7, h9, h10, hP, rfl, htr, ne⟩
  have tab : s.heap.TableAt c Pt ps := ⟨⟨oc, vs, hc, hcl, hd, h11'⟩, hP⟩
  cases hf : codeAmong pos ps.toList with
  | some cv =>
    refine wpAny_genexprCode_hit ec code hf ?_
    exact hQ cv s.heap s.toks H (I.tok s.toks) (Same.refl H) (fun _ q => q) (fun _ _ q _ => q) (Nat.le_refl _)
  | none =>
    refine wpAny_genexprCodeX ec code tab hf fun c' h' tk hx hge hlt hcode' _ htab' _ => ?_
    have nP : ∀ b u, H b = some u → (∀ qs, u ≠ .tbl qs) → b ≠ Pt := fun b u e n z => by
      rw [z, hps] at e
      cases e
      exact n _ rfl
    have fr : ∀ b, H b = none → b ≠ Pt := fun b q z => by rw [z, hps] at q; cases q
    have tr' : TriplesOk (ps ++ #[rawInt pos.line, rawInt pos.col, Value.ref c']).toList := by
      obtain ⟨_, _, _, _, _, _, _, _, _, _, _, _, _, _, _, _, _, _, _, z, _⟩ := hcode'
      exact z
    have inv : Inv X pins σ (upd H Pt (.tbl (ps ++ #[rawInt pos.line, rawInt pos.col, .ref c']))) { s with heap := h', toks := tk } := by
      refine I.un ⟨fun b o q n _ _ => hx b o (fr b n) q, fun b o q n _ _ => ⟨o.slots, hx b o (fr b n) q⟩, fun b o q n _ => by rw [upd_ne (fr b n)]; exact n, fun b o q _ => ?_, fun b xs q => ?_, fun b o u q => ?_, fun b qs q => ?_⟩ fun b u e => ?_
      · by_cases hb : b = Pt
        · exact ⟨_, by rw [hb]; exact htab'.2⟩
        · exact ⟨o, hx b o hb q⟩
      · rw [upd_ne (nP b _ q fun _ z => nomatch z)]; exact q
      · rw [upd_ne (nP b _ q fun _ z => nomatch z)]; exact q
      · by_cases hb : b = Pt
        · subst hb
          rw [hps] at q
          cases q
          exact ⟨_, upd_same⟩
        · exact ⟨#[], by rw [upd_ne hb, q]; simp⟩
      · by_cases hb : b = Pt
        · subst hb
          rw [upd_same] at e
          cases e
          exact ⟨htab'.2, tr'⟩
        · rw [upd_ne hb] at e
          refine (I.hok b u e).stay (fun d v hd' q => hx d v ?_ q) (fun d q => ?_) fun d xs q => ?_
          · rcases hd' with z | z
            · rw [z]; exact hb
            · exact nP d _ z fun _ y => nomatch y
          · rw [upd_ne (nP d _ q fun _ z => nomatch z)]; exact q
          · rw [upd_ne (nP d _ q fun _ z => nomatch z)]; exact q
    exact hQ _ h' tk _ inv (Same.tb hps) (fun b q => by rw [upd_ne (fr b q)]; exact q) (fun b o q hn => hx b o (fun z => by rw [z, hP] at q; cases q; exact hn rfl) q) (Nat.le_trans hge (Nat.le_of_lt hlt))

/-- sum(e for a, b in it): what is wanted of the iterator, the tests, the element -/
theorem gen_sum {Q : Value → Shared → Prop} {E : Value → Shared → Prop} {elt iter : Expr} {xa xb : Str} {pa pb pt : Pos} {kt : Nat} {ifs : List Expr} {scope : Scope} {cl : List (Str × Addr)} {gpos : Pos} (I : Inv X pins σ H s)
    (hc : X.calm = true) (ck : CodeK X.prog X.K X.mg X.env.code)
    (hco : scope.isCoroutine = false) (hclos : closureFor scope X.env = pure cl) (hcell : ∀ y ∈ scope.names, y.2 ≠ .cell) (h0 : scope.names.lookup (".0" : Str) = some NameKind.local)
    (hxa : scope.names.lookup xa = some .local) (hxb : scope.names.lookup xb = some .local) (hab : xa ≠ xb) (hkind : scope.kind = .function) (hroom : X.A.depth < recursionLimit)
    (h : wpAny (model X.prog X.w) X.A (eval iter X.env) (fun xv s₁ => wpAny (model X.prog X.w) X.A (pyIter xv) (fun it s₂ =>
      ∃ H₂ I₀ fp wr n₀ Pt St₀ Mid, ∃ (pz : Nat → Bool) (val : Nat → Int), Inv X pins σ H₂ s₂ ∧ it = .ref I₀ ∧ (∀ A' : Around, A'.handled = none → WalksU X.prog X.w A' I₀ fp wr n₀ Pt St₀ Mid) ∧ (∀ i vals, Pt i vals → ∃ va vb, vals = #[va, vb]) ∧ St₀ 0 s₂.heap ∧
        (∀ b ∈ fp, ∃ o, s₂.heap.get? b = some o ∧ o.cls ≠ .none) ∧ (∀ b ∈ wr, FpOk X pins H₂ b) ∧
        (∀ (C : Addr) (code : Value) (A' : Around) (E' : Value → Shared → Prop) (i : Nat) (va vb : Value) (t s₃ : Shared) (H₃ : Hp) m₂, Inv X pins σ H₃ s₃ → Same H₂ H₃ → A'.handled = none → A'.depth ≤ X.A.depth + 1 → A'.units ≤ X.A.units + 8 → Pt i #[va, vb] →
          t.heap.Ns C m₂ → m₂ xa = some va → m₂ xb = some vb → (∀ b o, b ∉ wr → s₃.heap.get? b = some o → t.heap.get? b = some o) →
          wpAny (model X.prog X.w) A' (forIn ifs true fun c r => if r = true then do let ok ← isTrue c (genEnv scope cl C code builtinsNs X.env) (eval c (genEnv scope cl C code builtinsNs X.env)); pure (ForInStep.yield ok) else pure (ForInStep.yield r))
            (fun ok s' => ok = pz i ∧ Keeps t s') E' t ∧
          (pz i = true → wpAny (model X.prog X.w) A' (eval elt (genEnv scope cl C code builtinsNs X.env)) (fun y s' => (∃ tk, y = .int (val i) tk) ∧ Keeps t s') E' t)) ∧
        ∀ H' s' tk, Inv X pins σ H' s' → Same H₂ H' → Q (.int (((passing pz n₀ 0).map val).sum) tk) s') E s₁) E s)
    (hs : ∀ x, genFold iter X.env x = pure x) :
    wpAny (model X.prog X.w) X.A (eval (.GeneratorExp elt [⟨.Tuple [.Name xa pa, .Name xb pb] kt pt, iter, ifs, 0⟩] scope gpos) X.env) (fun v s₅ => wpAny (model X.prog X.w) X.A (call (.builtin "sum") [v]) Q E s₅) E s := by
  have hh : X.A.handled = none := I.ok.hd hc
  refine wpAny_GeneratorExp_walksQTD hh hco hclos hcell h0 hxa hxb hab hkind hroom (thn h fun xv s₁ h₁ => thn h₁ fun it s₂ h₂ => ?_) hs
  obtain ⟨H₂, I₀, fp, wr, n₀, Pt, St₀, Mid, pz, val, I₂, rfl, W₀, hsz2, hst, hfp, hwr, hq, hQ⟩ := h₂
  refine ⟨I₂.nolimit, gen_code I₂ ck fun code h₃ tk₃ H₃ I₃ sm fr keep sz => ?_⟩
  obtain ⟨bm, ob, M⟩ := I₃.mod.bmod
  have M₃ : BMod h₃ mainGlobals X.mg bm ob := M.keeps I₃.bk
  have hcw : cStatics ∉ wr := fun hm => by
    obtain ⟨mc, ⟨oc, es, ep, hoc, _⟩, _⟩ := I₃.mod.nolimit
    obtain ⟨_, _, _, z, _⟩ := hwr _ hm
    rcases z with z | z
    · exact I₃.ok.noex _ _ hoc z
    · exact absurd (Nat.lt_of_lt_of_le (Heap.lt_size hoc) (Nat.le_trans I₃.ok.bsz z)) (Nat.lt_irrefl _)
  refine wpAny_builtinsFor (by rw [I₃.ok.glob]; exact M₃.ns) M₃.name M₃.ne M₃.obj M₃.cls M₃.dict M₃.data ?_
  have kp : ∀ b ∈ fp, ∀ o, s₂.heap.get? b = some o → h₃.get? b = some o := fun b hb o e => by
    obtain ⟨o', e', n⟩ := hfp b hb
    rw [e] at e'
    cases e'
    exact keep b o e n
  refine ⟨I₀, fp, wr, n₀, Pt, St₀, Mid, pz, fun i y => ∃ tk, y = .int (val i) tk, rfl, W₀, hsz2, (W₀ X.A hh).frame _ _ _ hst kp, (fun b hb => by
      obtain ⟨o, e, n⟩ := hfp b hb
      exact Heap.lt_size (kp b hb o e)), I₃.nolimit, hcw, (fun href hhr => ?_), fun a h₅ tk gs hgb hag hsz₅ hk₅ W hat => ?_⟩
  · refine ⟨fun A' E' i va vb t m₂ hA hD hU hP hn ha hb hkp => ?_, fun A' E' i va vb t m₂ hA hD hU hP hz hn ha hb hkp => ?_⟩
    · exact (hq h₃.objs.size code A' E' i va vb t _ H₃ m₂ I₃ sm hA hD hU hP hn ha hb fun b o hw e => hkp b (List.mem_range.mpr (Heap.lt_size e)) hw o (hhr b o e)).1
    · exact (hq h₃.objs.size code A' E' i va vb t _ H₃ m₂ I₃ sm hA hD hU hP hn ha hb fun b o hw e => hkp b (List.mem_range.mpr (Heap.lt_size e)) hw o (hhr b o e)).2 hz
  · have W' := W.in4_1
    refine call_sum_walkAnyS (W'.self 0 _ _ _ hat ⟨a, _, _, _, _, _, _, fun j => ((passing pz n₀ 0).map val).getD j 0, rfl, W', hat, fun b hb => ?_, fun j v hv => ?_, fun s' t' hm => ?_⟩)
    · show b < h₅.objs.size
      rw [hsz₅]
      have hag' : h₃.objs.size < a := hag
      rcases List.mem_cons.mp hb with z | hb
      · rw [z]; exact Nat.lt_succ_self _
      · rcases List.mem_cons.mp hb with z | hb
        · rw [z]; exact Nat.lt_succ_of_lt hag'
        · exact Nat.lt_succ_of_lt (Nat.lt_trans (List.mem_range.mp hb) hag')
    · obtain ⟨i, hi, tk, rfl⟩ := hv
      exact ⟨tk, by simp [List.getD_eq_getElem?_getD, hi]⟩
    · have e := preSum_getD ((passing pz n₀ 0).map val) (passing pz n₀ 0).length
      rw [List.take_of_length_le (by simp)] at e
      rw [e]
      have kk : ∀ b o, b ∉ wr → h₃.get? b = some o → s'.heap.get? b = some o := fun b o hb q => hm.heap b o (fun z => by
        rcases List.mem_cons.mp z with z | z
        · exact absurd (Heap.lt_size q) (by rw [z]; exact Nat.lt_irrefl _)
        · exact hb z) (hk₅ b o q)
      have fw : ∀ b ∈ wr, H₃ b = none := fun b hb => fr b (hwr b hb).1
      refine hQ H₃ s' t' (I₃.call' (ch := wr) hm.os ⟨fun b o q n _ hx => kk b o hx q, fun b o q n _ hx => ⟨o.slots, kk b o hx q⟩, fun b o q n _ => n, fun b o q hx => ⟨o, kk b o hx q⟩, fun _ _ q => q, fun _ _ _ q => q, fun b qs q => ⟨#[], by rw [q]; simp⟩⟩ (fun b u q => ?_) ((I₃.bare.push hgb).movedS hm) fun b hb => ?_) sm
      · refine (I₃.hok b u q).stay (fun d v hd q' => kk d v (fun hw => ?_) q') (fun _ z => z) fun _ _ z => z
        have := fw d hw
        rcases hd with z | z
        · rw [z, q] at this; cases this
        · rw [z] at this; cases this
      · obtain ⟨_, a1, a2, a3, a4, a5⟩ := hwr b hb
        exact ⟨a3, a1, a4, a5⟩
end
end L2

set_option Elab.async false
set_option linter.all false
set_option maxRecDepth 100000
set_option maxHeartbeats 4000000
namespace L2
open PySem PySem.Spec PyProof.Rows

theorem passing_all (n : Nat) : passing (fun _ => true) n 0 = List.range n := by
  unfold passing
  rw [List.drop_zero]
  exact List.filter_eq_self.mpr fun _ _ => rfl
/-- what an element of a generator expression with two names tells, as a whole number -/
def El2 (scope : Scope) (cl : List (Str × Addr)) (env : Env) (prog : Program) (w : World) (xa xb : Str) (elt : Expr) (C : Int → Int → Prop) (f : Int → Int → Int) : Prop :=
  ∀ (A' : Around) (E' : Value → Shared → Prop) (L : Addr) (code : Value) (x y : Int) (tx ty : Tok) (t : Shared) (m₂ : Str → Option Value), t.heap.Ns L m₂ → m₂ xa = some (.int x tx) → m₂ xb = some (.int y ty) → C x y →
    wpAny (model prog w) A' (eval elt (genEnv scope cl L code builtinsNs env)) (fun v s' => (∃ tk, v = .int (f x y) tk) ∧ Keeps t s') E' t
theorem keeps_tok (t : Shared) (n : Nat) : Keeps t { t with toks := n } := ⟨t.heap, n, rfl, fun _ _ e => e⟩
theorem keeps_refl (t : Shared) : Keeps t t := ⟨t.heap, t.toks, rfl, fun _ _ e => e⟩
section
variable {scope : Scope} {cl : List (Str × Addr)} {env : Env} {prog : Program} {w : World} {xa xb : Str}
end

theorem boot_sum9 : bootBuiltins "sum" = some (.builtin "sum") := by decide +kernel
def fullV (vs : Array Value) : Bool := match vs[11]?, vs[18]?, vs[7]?, vs[9]?, vs[10]? with
  | Option.some (Value.ref _), Option.some (Value.str _ _), Option.some (Value.int _ _), Option.some (Value.bool _), Option.some (Value.int _ _) => true
  | _, _, _, _, _ => false
def codeFull (K : PySem.W.Frag) (cd : Value) : Bool := match cd with
  | .ref c => (match K.lookup c with
    | some ⟨oc, _, .fields vs, _⟩ => oc == .type "code" && fullV vs
    | _ => false)
  | _ => false
theorem getD_some {vs : Array Value} {i : Nat} {v : Value} (h : vs[i]? = some v) : vs.getD i .none = v := by
  obtain ⟨h1, h2⟩ := Array.getElem?_eq_some_iff.mp h
  simp [Array.getD, h1, h2]
theorem codeK_of {P : Program} {K : PySem.W.Frag} {mg : Str → Option Value} {x : Str} {f : Addr} {o : Obj} {fd : FuncData} (hm : mg x = some (.ref f)) (l : K.lookup f = some o) (hd : o.data = .func fd)
    (rc : (recsOf P).any (fun d => d.name == x) = true) (cf : codeFull K fd.code = true) : CodeK P K mg fd.code := by
  obtain ⟨d, hdm, hdn⟩ := List.any_eq_true.mp rc
  have hdn := beq_iff_eq.mp hdn
  unfold codeFull at cf
  split at cf
  · rename_i c hc
    split at cf
    · rename_i oc od vs sl lk
      rw [Bool.and_eq_true] at cf
      obtain ⟨c1, c2⟩ := cf
      unfold fullV at c2
      split at c2
      · rename_i Pt file tf flags tg inF text tt h11 h18 h7 h9 h10
        exact ⟨c, Pt, _, vs, file, tf, flags, tg, inF, text, tt, hc, ⟨d, hdm, f, o, fd, c, _, vs, by rw [hdn]; exact hm, l, hd, hc, lk, rfl, getD_some h11⟩, lk, beq_iff_eq.mp c1, rfl, getD_some h11, h11, getD_some h18, getD_some h7, getD_some h9, getD_some h10⟩
      · cases c2
    · cases cf
  · cases cf
def DefG (P : Program) (K : PySem.W.Frag) (mg : Str → Option Value) (x : Str) (st : Stmt) (ps : List Str) : Prop :=
  ∃ (f : Addr) (fd : FuncData), mg x = some (.ref f) ∧ Fun K x x st f fd ∧ Binds K fd ps [] ∧ CodeK P K mg fd.code
section
variable {P : Program} {w : World} {K : PySem.W.Frag} {mg : Str → Option Value} {base : Heap}
theorem DefG.fn {x : Str} {st : Stmt} {N ps : List Str} {k : Nat} {sp : Sp} (D : DefG P K mg x st ps) (S : FnScope N ps (defScope st)) (len : ∀ vs H Q E, sp vs H Q E → vs.length = ps.length)
    (hbody : ∀ (f : Addr) (cdv : Value) (A : Around) (outer : List Env) (s : Shared) (H : Hp) (vs : List V) (Q : VK) (E : XK), CodeK P K mg cdv → Room k (A.deeper (envOfC x (defScope st) s.heap.objs.size f cdv)) → sp vs H Q E →
      ∃ t, PSs (cxOf CX0 P w K mg base N x (defScope st) f cdv A outer s H E).nox (defBody st) t ∧ t { nx := fun _ H' => Q .non H', rt := Q } (start N vs) H) : Fn P w K mg base (k + 1) x ps sp := by
  obtain ⟨f, fd, hm, F, b, ck⟩ := D
  refine ⟨f, fd, hm, F.kp, b, ?_⟩
  obtain ⟨oc, od, kV, doc, pm, an, cdv, ct, osl, rfl, lk, hcd⟩ := F.ex
  refine fn_of lk hcd S len fun A outer s H vs Q E hr hsp => ?_
  obtain ⟨t, h, q⟩ := hbody f cdv A outer s H vs Q E ck hr hsp
  exact ⟨t, h.nox, q⟩
theorem defG_mk {h : Heap} (X : K.In h) (G : h.Ns mainGlobals mg) {x : Str} {st : Stmt} {ps : List Str} {f : Addr} {oc : Value} {od an : Option Addr} {osl : Array (Option Value)} {kV doc pm cdv ct : Value}
    (a : PySem.W.nsIn K mainGlobals x = some (some (.ref f))) (l : K.lookup f = some ⟨oc, od, .func (PySem.W.fnOf x x (defArgs st) (defBody st) (defScope st) .none kV doc pm an cdv ct), osl⟩)
    (c : PySem.W.codeIn K cdv x = true) (k : PySem.W.keepIn K (.ref f) = true) (rc : (recsOf P).any (fun d => d.name == x) = true) (cf : codeFull K cdv = true)
    (hb : ∀ (kV doc pm : Value) (an : Option Addr) (cdv ct : Value) (us : List Value), us.length = ps.length → bindArgs (PySem.W.fnOf x x (defArgs st) (defBody st) (defScope st) .none kV doc pm an cdv ct) ⟨us, []⟩ = pure (ps.zip us)) : DefG P K mg x st ps :=
  have F := fun_mk (st := st) l c k
  ⟨f, _, PySem.W.mg_of X G a, F, F.binds hb, codeK_of (PySem.W.mg_of X G a) l rfl rc cf⟩
end
end L2

set_option Elab.async false
set_option linter.all false
set_option maxRecDepth 100000
set_option maxHeartbeats 4000000
namespace L2
open PySem PySem.Spec PyProof.Rows
namespace FF
end FF
section
variable {prog : Program} {w : World} {A : Around} {E : Value → Shared → Prop} {s : Shared}
end
def MFn (P : Program) (w : World) (K : PySem.W.Frag) (mg : Str → Option Value) (base : Heap) (k : Nat) (C : Addr) (m : Str) (ps : List Str) (sp : Sp) : Prop :=
  ∃ (f : Addr) (fd : FuncData), Cls K C ∧ Meth K C m f ∧ Binds K fd ps [] ∧ FnOk P w K mg base CX0 k f fd ps sp
def IFn (P : Program) (w : World) (K : PySem.W.Frag) (mg : Str → Option Value) (base : Heap) (k : Nat) (x : Str) (C : Addr) (ps : List Str) (sp : Sp) : Prop :=
  ∃ (f : Addr) (fd : FuncData), mg x = some (.ref C) ∧ Mk K C f ∧ Binds K fd ps [] ∧ FnOk P w K mg base CX0 k f fd ps sp
def DefM (K : PySem.W.Frag) (C : Addr) (m qual : Str) (st : Stmt) (ps : List Str) : Prop :=
  ∃ (f : Addr) (fd : FuncData), Cls K C ∧ Meth K C m f ∧ Fun K m qual st f fd ∧ Binds K fd ps []
def DefI (K : PySem.W.Frag) (mg : Str → Option Value) (x : Str) (C : Addr) (qual : Str) (st : Stmt) (ps : List Str) : Prop :=
  ∃ (f : Addr) (fd : FuncData), mg x = some (.ref C) ∧ Mk K C f ∧ Fun K "__init__" qual st f fd ∧ Binds K fd ps []
section
variable {P : Program} {w : World} {K : PySem.W.Frag} {mg : Str → Option Value} {base : Heap} {C : Addr}
theorem DefM.fn {m qual : Str} {st : Stmt} {N ps : List Str} {k : Nat} {sp : Sp} (D : DefM K C m qual st ps) (S : FnScope N ps (defScope st)) (len : ∀ vs H Q E, sp vs H Q E → vs.length = ps.length)
    (hbody : ∀ (f : Addr) (cdv : Value) (A : Around) (outer : List Env) (s : Shared) (H : Hp) (vs : List V) (Q : VK) (E : XK), Room k (A.deeper (envOfC qual (defScope st) s.heap.objs.size f cdv)) → sp vs H Q E →
      ∃ t, PSs (cxOf CX0 P w K mg base N qual (defScope st) f cdv A outer s H E).nox (defBody st) t ∧ t { nx := fun _ H' => Q .non H', rt := Q } (start N vs) H) : MFn P w K mg base (k + 1) C m ps sp := by
  obtain ⟨f, fd, c, hm, F, b⟩ := D
  exact ⟨f, fd, c, hm, b, F.ok S len fun cdv A outer s H vs Q E hr h => hbody f cdv A outer s H vs Q E hr h⟩
theorem DefI.fn {x qual : Str} {st : Stmt} {N ps : List Str} {k : Nat} {sp : Sp} (D : DefI K mg x C qual st ps) (S : FnScope N ps (defScope st)) (len : ∀ vs H Q E, sp vs H Q E → vs.length = ps.length)
    (hbody : ∀ (f : Addr) (cdv : Value) (A : Around) (outer : List Env) (s : Shared) (H : Hp) (vs : List V) (Q : VK) (E : XK), Room k (A.deeper (envOfC qual (defScope st) s.heap.objs.size f cdv)) → sp vs H Q E →
      ∃ t, PSs (cxOf CX0 P w K mg base N qual (defScope st) f cdv A outer s H E).nox (defBody st) t ∧ t { nx := fun _ H' => Q .non H', rt := Q } (start N vs) H) : IFn P w K mg base (k + 1) x C ps sp := by
  obtain ⟨f, fd, hm, mk, F, b⟩ := D
  exact ⟨f, fd, hm, mk, b, F.ok S len fun cdv A outer s H vs Q E hr h => hbody f cdv A outer s H vs Q E hr h⟩
end
section
variable {X : Cx} {j k : Nat} {C : Addr} {x m : Str} {ps : List Str} {sp : Sp} {p pos apos : Pos} {o e : Expr} {es : List Expr} {ta : TE} {t : TA}
end
end L2

set_option Elab.async false
set_option linter.all false
set_option maxRecDepth 100000
set_option maxHeartbeats 4000000
namespace L2
open PySem PySem.Spec PyProof.Rows
abbrev mn (ns : List Int) (i j : Nat) : Int := minL (seg ns (i : Int) (j : Int))
theorem mem_segN {ns : List Int} {i j : Nat} {x : Int} (hj : j ≤ ns.length) : x ∈ seg ns (i : Int) (j : Int) ↔ ∃ k, i ≤ k ∧ k < j ∧ x = vl ns k := by
  constructor
  · intro h
    obtain ⟨m, hm⟩ := List.getElem?_of_mem h
    have hl : m < (seg ns (i : Int) (j : Int)).length := (List.getElem?_eq_some_iff.mp hm).1
    have hl2 : m < j - i := by
      unfold seg at hl
      rw [List.length_take, List.length_drop] at hl
      simp only [Int.toNat_natCast] at hl
      omega
    rw [seg_get (by omega) (by simpa using hl2)] at hm
    simp only [Int.toNat_natCast] at hm
    exact ⟨i + m, by omega, by omega, get_vl hm⟩
  · rintro ⟨k, h1, h2, rfl⟩
    have e : (seg ns (i : Int) (j : Int))[k - i]? = some (vl ns k) := by
      rw [seg_get (by omega) (by simp only [Int.toNat_natCast]; omega)]
      simp only [Int.toNat_natCast]
      rw [show i + (k - i) = k by omega, List.getElem?_eq_getElem (show k < ns.length by omega)]
      simp [vl, show k < ns.length by omega]
    exact List.mem_of_getElem? e
theorem segN_ne {ns : List Int} {i j : Nat} (h : i < j) (hj : j ≤ ns.length) : seg ns (i : Int) (j : Int) ≠ [] := seg_ne ⟨by omega, by omega, by omega⟩
theorem mn_eq {ns : List Int} {i j p : Nat} (h1 : i ≤ p) (h2 : p < j) (hj : j ≤ ns.length) (h : ∀ k, i ≤ k → k < j → vl ns p ≤ vl ns k) : mn ns i j = vl ns p := by
  refine minL_uniq ((mem_segN hj).mpr ⟨p, h1, h2, rfl⟩) fun y hy => ?_
  obtain ⟨k, k1, k2, rfl⟩ := (mem_segN hj).mp hy
  exact h k k1 k2
theorem rng_at {f : Nat → Int} {n i : Nat} (h : i < n) : vl ((List.range n).map f) i = f i := by
  show List.getD _ _ _ = _
  rw [List.getD_eq_getElem?_getD, List.getElem?_map, List.getElem?_range h]
  rfl
end L2

set_option Elab.async false
set_option linter.all false
set_option maxRecDepth 100000
set_option maxHeartbeats 4000000
namespace L2
open PySem PySem.Spec PyProof.Rows
end L2

set_option Elab.async false
set_option linter.all false
set_option maxRecDepth 100000
set_option maxHeartbeats 4000000
namespace L2
open PySem PySem.Spec PyProof.Rows
section
variable {X : Cx}
end
end L2

set_option Elab.async false
set_option linter.all false
set_option maxRecDepth 100000
set_option maxHeartbeats 4000000
namespace L2
open PySem PySem.Spec PyProof.Rows
section
variable {X : Cx}
theorem shapedTup (ns : List Int) : SeqAt.shaped (.tuple (ns.map PyData.int)) = true := by
  have h1 := canLayInts ns
  have h2 := depthInts ns
  unfold SeqAt.shaped
  simp only [PyData.canLay0, PyData.depth, h1, Bool.true_and]
  exact decide_eq_true (by omega)
theorem eqvTup (ns ms : List Int) : PyData.eqv (.tuple (ns.map PyData.int)) (.tuple (ms.map PyData.int)) = decide (ns = ms) := by
  simp only [PyData.eqv]; exact eqvAllInts ns ms
def rEqTI (K : PySem.W.Frag) : R2 := fun x y H Q => ∃ (a b : Addr) (ns ms : List Int), x = .ref a ∧ y = .ref b ∧ SqT K H a (ns.map V.int) ∧ SqT K H b (ms.map V.int) ∧ Q (.bl (decide (ns = ms))) H
def rNeTI (K : PySem.W.Frag) : R2 := fun x y H Q => ∃ (a b : Addr) (ns ms : List Int), x = .ref a ∧ y = .ref b ∧ SqT K H a (ns.map V.int) ∧ SqT K H b (ms.map V.int) ∧ Q (.bl (!decide (ns = ms))) H
theorem op_eqTI (hu : X.A.units + 64 < cLine) : OpR X (compareOp .Eq) (rEqTI X.K) := by
  intro pins s σ H x y v u Q I rx ry h
  obtain ⟨a, b, ns, ms, rfl, rfl, h1, h2, q⟩ := h
  exact op_eqD hu pins s σ H _ _ v u Q I rx ry ⟨_, _, .tup h1 (dpInts ns), .tup h2 (dpInts ms), shapedTup _, shapedTup _, by rw [eqvTup]; exact q⟩
theorem op_neTI (hu : X.A.units + 64 < cLine) : OpR X (compareOp .NotEq) (rNeTI X.K) := by
  intro pins s σ H x y v u Q I rx ry h
  obtain ⟨a, b, ns, ms, rfl, rfl, h1, h2, q⟩ := h
  exact op_neD hu pins s σ H _ _ v u Q I rx ry ⟨_, _, .tup h1 (dpInts ns), .tup h2 (dpInts ms), shapedTup _, shapedTup _, by rw [eqvTup]; exact q⟩
end
end L2

set_option Elab.async false
set_option linter.all false
set_option maxRecDepth 100000
set_option maxHeartbeats 4000000
namespace L2
open PySem PySem.Spec PyProof.Rows PySem.W PySem.Calls
section
variable {P : Program} {w : World} {H H' : Hp} {h h' : Heap} {a : Addr} {o : HO}
theorem ObjOk.live (x : ObjOk P w H h a o) : ∃ u, h.get? a = some u := by
  cases o with
  | lst xs => obtain ⟨_, _, _, _, e⟩ := x; exact ⟨_, e⟩
  | tup xs => obtain ⟨_, _, _, p⟩ := x; obtain ⟨o, e, _⟩ := p; exact ⟨_, e⟩
  | dK kvs => obtain ⟨_, _, _, _, o, _, _, e, _⟩ := x; exact ⟨_, e⟩
  | dT kvs => obtain ⟨_, _, _, _, o, _, _, e, _⟩ := x; exact ⟨_, e⟩
  | set S n => obtain ⟨o, _, _, _, e, _⟩ := x; exact ⟨_, e⟩
  | ins C dx fs => obtain ⟨_, _, _, e, _⟩ := x; exact ⟨_, e⟩
  | own y => obtain ⟨_, e⟩ := x; exact ⟨_, e⟩
  | xd fs => obtain ⟨_, ⟨_, _, _, e, _⟩, _⟩ := x; exact ⟨_, e⟩
  | rng lo hi => obtain ⟨_, _, _, e⟩ := x; exact ⟨_, e⟩
  | frz ob u => obtain ⟨e, _⟩ := x; exact ⟨_, e⟩
  | tbl ps => exact ⟨_, (show h.get? a = some _ ∧ _ from x).1⟩
  | met f y => exact ⟨_, show h.get? a = some _ from x⟩
  | ext φ => obtain ⟨_, ⟨_, e⟩, _⟩ := x; exact ⟨_, e⟩
end
section
variable {X : Cx} {pins : List (Addr × Obj)} {σ : St} {H N : Hp} {s : Shared} {h' : Heap} {t' : Nat}
end
section
variable {X : Cx} {pins : List (Addr × Obj)} {σ : St} {H : Hp} {s : Shared}
end


section
variable {prog : Program} {w : World} {A : Around} {E : Value → Shared → Prop} {s : Shared}
end
end L2

set_option Elab.async false
set_option linter.all false
set_option maxRecDepth 100000
set_option maxHeartbeats 4000000
namespace L2
open PySem PySem.Spec PyProof.Rows PySem.W PySem.Calls
section
variable {X : Cx} {e : Expr} {td : TE} {apos cpos : Pos}
end
def cntSt (ns : List Int) (v : Int) : Int := sumSt ns fun s => if minL s = v then 1 else 0
/-- the unlike leasts, rising, with how many stretches have each -/
structure IsBL (ns : List Int) (ps : List (Int × Int)) : Prop where
  rise : ps.Pairwise fun p q => p.1 < q.1
  each : ∀ p ∈ ps, p.1 ∈ ns ∧ p.2 = cntSt ns p.1
  all : ∀ n ∈ ns, ∃ p ∈ ps, p.1 = n
/-- they are just one list -/
theorem IsBL.one {ns : List Int} : ∀ {ps qs : List (Int × Int)}, ps.Pairwise (fun p q => p.1 < q.1) → qs.Pairwise (fun p q => p.1 < q.1) → (∀ p, p ∈ ps ↔ p ∈ qs) → ps = qs := by
  intro ps
  induction ps with
  | nil =>
    intro qs _ _ h
    cases qs with
    | nil => rfl
    | cons q r => exact absurd ((h q).mpr List.mem_cons_self) (by simp)
  | cons p r ih =>
    intro qs h1 h2 h
    cases qs with
    | nil => exact absurd ((h p).mp List.mem_cons_self) (by simp)
    | cons q t =>
      rw [List.pairwise_cons] at h1 h2
      have e : p = q := by
        rcases List.mem_cons.mp ((h p).mp List.mem_cons_self) with z | z
        · exact z
        · rcases List.mem_cons.mp ((h q).mpr List.mem_cons_self) with y | y
          · exact y.symm
          · have := h1.1 q y; have := h2.1 p z; omega
      subst e
      rw [ih h1.2 h2.2 fun x => ?_]
      constructor
      · intro hx
        rcases List.mem_cons.mp ((h x).mp (List.mem_cons_of_mem _ hx)) with z | z
        · subst z; have := h1.1 x hx; omega
        · exact z
      · intro hx
        rcases List.mem_cons.mp ((h x).mpr (List.mem_cons_of_mem _ hx)) with z | z
        · subst z; have := h2.1 x hx; omega
        · exact z
theorem IsBL.uniq {ns : List Int} {ps qs : List (Int × Int)} (h : IsBL ns ps) (k : IsBL ns qs) : ps = qs := by
  have go : ∀ {ps qs : List (Int × Int)}, IsBL ns ps → IsBL ns qs → ∀ p, p ∈ ps → p ∈ qs := fun h k p hp => by
    obtain ⟨h1, h2⟩ := h.each p hp
    obtain ⟨q, hq, e⟩ := k.all p.1 h1
    have h3 := (k.each q hq).2
    have : q = p := Prod.ext e (by rw [h3, h2, e])
    rw [← this]; exact hq
  exact IsBL.one (ns := ns) h.rise k.rise fun p => ⟨go h k p, go k h p⟩
end L2

set_option Elab.async false
set_option linter.all false
set_option maxRecDepth 100000
set_option maxHeartbeats 4000000
namespace L2
open PySem PySem.Spec PyProof.Rows PySem.W PySem.Calls
section
variable {X : Cx} {pins : List (Addr × Obj)} {σ : St} {H : Hp} {s : Shared} {h' : Heap} {t' : Nat}
end
section
variable {X : Cx}
end
end L2

set_option Elab.async false
set_option linter.all false
set_option maxRecDepth 100000
set_option maxHeartbeats 4000000
namespace L2
open PySem
/-- all but what S holds stays -/
def ButS (S : Addr → Prop) (H H' : Hp) : Prop := ∀ b o, ¬ S b → H b = some o → SamO o (H' b)
theorem ButS.refl (S : Addr → Prop) (H : Hp) : ButS S H H := fun _ _ _ h => SamO.of h
theorem ButS.ap {S : Addr → Prop} {H H' : Hp} (s : ButS S H H') {c : Addr} {o : HO} (n : ¬ S c) (h : SamO o (H c)) : SamO o (H' c) := by
  cases o <;> first
    | exact s c _ n h
    | (obtain ⟨qs, e⟩ := h; have z : ∃ r, H' c = Option.some (.tbl r) := s c (.tbl qs) n e; exact z)
theorem ButS.trans {S : Addr → Prop} {H H1 H2 : Hp} (a : ButS S H H1) (b : ButS S H1 H2) : ButS S H H2 := fun c o n h => b.ap n (a c o n h)
theorem ButS.upd {S : Addr → Prop} {H : Hp} {p : Addr} {o : HO} (hp : S p) : ButS S H (L2.upd H p o) := by
  intro b u n h
  have nb : b ≠ p := fun z => n (by rw [z]; exact hp)
  rw [upd_ne nb]
  exact SamO.of h
theorem ButS.mono {S S' : Addr → Prop} {H H' : Hp} (s : ButS S H H') (h : ∀ b, S b → S' b) : ButS S' H H' := fun b o n e => s b o (fun z => n (h b z)) e
theorem ButS.same {S : Addr → Prop} {H H' : Hp} (s : ButS S H H') (h : ∀ b, S b → H b = none) : Same H H' := fun b o e => s b o (fun z => by rw [h b z] at e; cases e) e
/-- but for what was new ahead -/
theorem ButS.old {S S' : Addr → Prop} {H H' : Hp} (s : ButS S H H') (h : ∀ b, S b → S' b ∨ H b = none) : ButS S' H H' := fun b o n e => s b o (fun z => (h b z).elim n fun y => by rw [y] at e; cases e) e
theorem ButS.seq {K : PySem.W.Frag} {S : Addr → Prop} {a : Addr} {H H' : Hp} {xs : List V} (s : ButS S H H') (n : ¬ S a) (h : SqL K H a xs) : SqL K H' a xs := by
  rcases h with (h | ⟨o, h⟩) | h
  · exact .inl (.inl (s _ _ n h))
  · exact .inl (.inr ⟨o, s _ _ n h⟩)
  · exact .inr h
section
variable {X : Cx} {K : PySem.W.Frag}
end
end L2

set_option Elab.async false
set_option linter.all false
set_option maxRecDepth 100000
set_option maxHeartbeats 4000000
namespace HT
open PySem PyProof.Rows
section
open PySem.SeqAt
open PySem.AutoSeq1 (wpAny_loadPart')
open PySem.MeetsSeq PySem.MeetsSeq2 PySem.MeetsSeq3
end
section
variable {prog : Program} {w : World} {A : Around} {E : Value → Shared → Prop} {s : Shared}
end
end HT
namespace L2
open PySem PyProof.Rows
theorem get_ge {h : Heap} {b : Addr} (n : h.objs.size ≤ b) : h.get? b = none := by
  cases e : h.get? b with
  | none => rfl
  | some o => exact absurd (Heap.lt_size e) (Nat.not_lt.mpr n)
/-- two of the walked things compared, whatever has come to the heap h0 -/
def CmpAt (prog : Program) (w : World) (A : Around) (op : CmpOp) (h0 : Heap) (P : Nat → Value → Prop) (bt : Nat → Nat → Bool) : Prop :=
  ∀ i j vi vj (s : Shared) (Q : Value → Shared → Prop) (E : Value → Shared → Prop), (∀ b o, h0.get? b = some o → s.heap.get? b = some o) → P i vi → P j vj → Q (.bool (bt i j)) s → wpAny (model prog w) A (richCompare op vi vj) Q E s
section
variable {prog : Program} {w : World} {A : Around} {R : Result → Shared → Prop} {I : Addr} {fp wr : List Addr} {n : Nat} {P : Nat → Value → Prop} {St : Nat → Heap → Prop} {h0 : Heap}
theorem min_turns (W : Walks prog w A.in1 I fp wr n P St) (bt : Nat → Nat → Bool) (hc : CmpAt prog w A.in1 .Lt h0 P bt) (S : Addr) (nS : S ∉ fp) (h0w : ∀ b ∈ wr, h0.get? b = none) (h0S : h0.get? S = none) :
    ∀ (k j : Nat) (s : Shared) (vb : Value) (c : Nat), n - (j + 1) = k → j + 1 ≤ n → St (j + 1) s.heap → P (argBest bt j) vb → (∀ b o, h0.get? b = some o → s.heap.get? b = some o) →
      s.heap.get? S = some { cls := .type "list", dict := none, data := .seq #[vb, vb] c, slots := #[] } →
      (∀ v h' tk, P (argBest bt (n - 1)) v → (∀ b o, h0.get? b = some o → h'.get? b = some o) → R (.ok (.ret v)) { s with heap := h', toks := tk }) →
      codeAny (model prog w) A (.builtin "min.loop" ⟨[.ref I, .none, .ref S], []⟩) R s := by
  have wS : S ∉ wr := fun z => nS (W.sub _ z)
  have nm : (toString "min" ++ toString ".loop" : String) = "min.loop" := by decide
  have kw : ∀ {ha hb : Heap}, (∀ b o, b ∉ wr → ha.get? b = some o → hb.get? b = some o) → (∀ b o, h0.get? b = some o → ha.get? b = some o) → ∀ b o, h0.get? b = some o → hb.get? b = some o := fun k1 k2 b o e => k1 b o (fun z => by rw [h0w b z] at e; cases e) (k2 b o e)
  have kS : ∀ {ha : Heap} {g : Obj → Obj}, (∀ b o, h0.get? b = some o → ha.get? b = some o) → ∀ b o, h0.get? b = some o → (ha.update S g).get? b = some o := fun k2 b o e => (Heap.get?_update_other _ _ (fun z => by rw [← z, h0S] at e; cases e)).trans (k2 b o e)
  intro k
  induction k with
  | zero =>
    intro j s vb c ek hj st pb old cS hR
    have ej : j + 1 = n := by omega
    refine codeAny_builtin PySem.F.entry_min_loop ?_; rw [Around.under_plainId PySem.F.plain_min_loop _]
    show wpAny _ A.in1 (seqItems? (.ref S) >>= _) _ _ s; refine wpAny_bind (wpAny_seqItems cS rfl ?_)
    show wpAny _ A.in1 (tryCatch (pyNext (.ref I)) _ >>= _) _ _ s; refine wpAny_bind (wpAny_tryCatch (W.done s _ _ (ej ▸ st) fun h' tk kk => ?_))
    have cS' := kk S _ wS cS
    show wpAny _ A.in1 (updateSeq S (fun _ => #[]) >>= _) _ _ _; refine wpAny_bind (wpAny_updateSeq cS' rfl (wpAny_bind (wpAny_letGo (wpAny_pure ?_))))
    exact hR vb _ tk (by rw [← ej]; exact pb) (kS (kw kk old))
  | succ k ih =>
    intro j s vb c ek hj st pb old cS hR
    have lt : j + 1 < n := by omega
    refine codeAny_builtin PySem.F.entry_min_loop ?_; rw [Around.under_plainId PySem.F.plain_min_loop _]
    show wpAny _ A.in1 (seqItems? (.ref S) >>= _) _ _ s; refine wpAny_bind (wpAny_seqItems cS rfl ?_)
    show wpAny _ A.in1 (tryCatch (pyNext (.ref I)) _ >>= _) _ _ s; refine wpAny_bind (wpAny_tryCatch (W.item (j + 1) s _ _ lt st fun v h' tk pv st' kk => ?_))
    have cS' := kk S _ wS cS
    have old' := kw kk old
    show wpAny _ A.in1 (tryCatch (holding [v, v] (richCompare .Lt v vb >>= _)) _ >>= _) _ _ _; refine wpAny_bind (wpAny_tryCatch (wpAny_holding (wpAny_bind (hc (j + 1) (argBest bt j) v vb _ _ _ old' pv pb ?_))))
    refine wpAny_bind (wpAny_holding (wpAny_truthy_bool (wpAny_bind (wpAny_letGo (wpAny_pure ?_)))))
    cases eb : bt (j + 1) (argBest bt j) with
    | true =>
      simp only [if_true]; refine wpAny_bind (wpAny_updateSeq cS' rfl (wpAny_bind (wpAny_letGo ?_))); rw [nm]
      refine wpAny_pure ⟨plainId_quiet PySem.F.plain_min_loop _, ih (j + 1) _ v _ (by omega) lt (W.frame _ _ _ st' fun b hb o e => ?_) (by simp only [argBest, eb, if_true]; exact pv) (kS old') (Heap.get?_update_self _ cS' rfl) hR⟩
      exact (Heap.get?_update_other _ _ (fun z : S = b => nS (z ▸ hb))).trans e
    | false =>
      simp only [Bool.false_eq_true, if_false]; refine wpAny_bind (wpAny_letGo ?_); rw [nm]
      exact wpAny_pure ⟨plainId_quiet PySem.F.plain_min_loop _, ih (j + 1) _ vb c (by omega) lt st' (by simp only [argBest, eb, Bool.false_eq_true, if_false]; exact pb) old' cS' hR⟩
end
section
variable {prog : Program} {w : World} {A : Around} {E : Value → Shared → Prop} {s : Shared}
/-- min(l) of a list whose items can be compared -/
theorem min_list {l : Addr} {its : Array Value} {bt : Nat → Nat → Bool} {Q : Value → Shared → Prop} (hh : A.handled = none) (hl : s.heap.IsList l its) (hn : 0 < its.size)
    (hc : CmpAt prog w A.in1 .Lt s.heap (fun i v => its[i]? = some v) bt)
    (hQ : ∀ v h' tk, its[argBest bt (its.size - 1)]? = some v → (∀ b o, s.heap.get? b = some o → h'.get? b = some o) → Q v { s with heap := h', toks := tk }) :
    wpAny (model prog w) A (call (.builtin "min") [.ref l]) Q E s := by
  have nm : (toString "min" ++ toString ".loop" : String) = "min.loop" := by decide
  have ll : l < s.heap.objs.size := by obtain ⟨_, e, _⟩ := hl; exact Heap.lt_size e
  refine call_function_tree PySem.F.kind_min PySem.F.plain_min PySem.F.entry_min (PySem.F.args_min1 _) ?_
  show wpAny _ A.in1 (Builtin.Builtins.bindParams "min" ["key", "default"] 0 ⟨[], []⟩ >>= _) _ _ s; refine wpAny_bind (wpAny_of_eq (show Builtin.Builtins.bindParams "min" ["key", "default"] 0 ⟨[], []⟩ = pure [none, none] from rfl) (wpAny_bind (wpAny_pure ?_)))
  refine wpAny_bind (wpAny_pyIter_list hl ?_)
  generalize eh : s.heap.push { cls := .type "list_iterator", data := .fields #[.ref l, .int 0 0] } = h1
  have k1 : ∀ b o, s.heap.get? b = some o → h1.get? b = some o := fun b o e => by rw [← eh]; exact Heap.get?_push_of_some _ e
  have sz1 : h1.objs.size = s.heap.objs.size + 1 := by rw [← eh, Heap.size_push]
  have it1 : h1.IsListIter s.heap.objs.size l 0 := by rw [← eh]; exact ⟨_, Heap.get?_push_size _ rfl, rfl, rfl⟩
  have l1 : h1.IsList l its := by rw [← eh]; exact hl.push _
  have W := Walks.list (prog := prog) (w := w) (A := A.in1) hh s.heap.objs.size l (Nat.ne_of_lt ll) its
  refine wpAny_bind (wpAny_newObj_type ?_)
  rw [nm]
  generalize eh2 : ({ s with heap := h1 } : Shared).heap.push _ = h2
  have k2 : ∀ b o, h1.get? b = some o → h2.get? b = some o := fun b o e => by rw [← eh2]; exact Heap.get?_push_of_some _ e
  have cS : h2.get? h1.objs.size = some { cls := .type "list", dict := none, data := .seq #[] 0, slots := #[] } := by rw [← eh2]; exact Heap.get?_push_size _ rfl
  have noS : s.heap.get? h1.objs.size = none := by rw [sz1]; exact get_ge (Nat.le_succ _)
  have nS : h1.objs.size ∉ [s.heap.objs.size, l] := fun z => by
    have z' : h1.objs.size = s.heap.objs.size ∨ h1.objs.size = l := by simpa using z
    rcases z' with z' | z'
    · rw [sz1] at z'; exact absurd z' (Nat.succ_ne_self _)
    · rw [sz1] at z'; exact absurd (z' ▸ ll : s.heap.objs.size + 1 < s.heap.objs.size) (by omega)
  have nw : ∀ b ∈ [s.heap.objs.size], s.heap.get? b = none := fun b hb => by rw [List.mem_singleton.mp hb]; exact get_ge (Nat.le_refl _)
  refine wpAny_pure ⟨plainId_quiet PySem.F.plain_min_loop _, ?_⟩
  -- the first one
  refine codeAny_builtin PySem.F.entry_min_loop ?_; rw [Around.under_plainId PySem.F.plain_min_loop _]
  show wpAny _ A.in1 (seqItems? (.ref h1.objs.size) >>= _) _ _ _; refine wpAny_bind (wpAny_seqItems cS rfl ?_)
  show wpAny _ A.in1 (tryCatch (pyNext (.ref s.heap.objs.size)) _ >>= _) _ _ _; refine wpAny_bind (wpAny_tryCatch (W.item 0 _ _ _ hn (W.frame 0 h1 h2 ⟨it1, l1⟩ fun b _ o e => k2 b o e) fun v h' tk pv st' kk => ?_))
  have cS' := kk _ _ (fun z => nS (W.sub _ z)) cS
  show wpAny _ A.in1 (updateSeq h1.objs.size (fun _ => #[v, v]) >>= _) _ _ _; refine wpAny_bind (wpAny_updateSeq cS' rfl ?_); rw [nm]
  refine wpAny_pure ⟨plainId_quiet PySem.F.plain_min_loop _, min_turns W bt hc h1.objs.size nS nw noS _ 0 _ v _ rfl hn (W.frame _ _ _ st' fun b hb o e => ?_) pv (fun b o e => ?_) (Heap.get?_update_self _ cS' rfl) fun v' h'' tk'' p' k' => hQ v' h'' tk'' p' k'⟩
  · exact (Heap.get?_update_other _ _ (fun z : h1.objs.size = b => nS (z ▸ hb))).trans e
  · have nb : b ∉ [s.heap.objs.size] := fun z => by rw [nw b z] at e; cases e
    exact (Heap.get?_update_other _ _ (fun z => by rw [← z, noS] at e; cases e)).trans (kk b o nb (k2 b o (k1 b o e)))
end
section
variable {prog : Program} {w : World} {A : Around} {R : Result → Shared → Prop} {I : Addr} {fp wr : List Addr} {n : Nat} {P : Nat → Value → Prop} {St : Nat → Heap → Prop} {h0 : Heap}
end
section
variable {prog : Program} {w : World} {A : Around} {E : Value → Shared → Prop} {s : Shared}
end
end L2

set_option Elab.async false
set_option linter.all false
set_option maxRecDepth 100000
set_option maxHeartbeats 4000000
namespace L2
open PySem PyProof.Rows
theorem lex_irrefl : ∀ a : List Int, HT.lexLt a a = false
  | [] => rfl
  | x :: xs => by rw [HT.lexLt_cons, if_pos rfl]; exact lex_irrefl xs
theorem lex_trans : ∀ {a b c : List Int}, HT.lexLt a b = true → HT.lexLt b c = true → HT.lexLt a c = true
  | [], [], c, h, _ => by cases h
  | [], _ :: _, [], _, h => by cases h
  | [], _ :: _, _ :: _, _, _ => rfl
  | _ :: _, [], _, h, _ => by cases h
  | _ :: _, _ :: _, [], _, h => by cases h
  | x :: xs, y :: ys, z :: zs, h1, h2 => by
    rw [HT.lexLt_cons] at h1 h2 ⊢
    by_cases e1 : x = y
    · rw [if_pos e1] at h1
      by_cases e2 : y = z
      · rw [if_pos e2] at h2
        rw [if_pos (e1.trans e2)]; exact lex_trans h1 h2
      · rw [if_neg e2] at h2
        rw [if_neg (e1 ▸ e2), e1]; exact h2
    · rw [if_neg e1] at h1
      have l1 : x < y := of_decide_eq_true h1
      by_cases e2 : y = z
      · rw [if_neg (e2 ▸ e1), ← e2]; exact h1
      · rw [if_neg e2] at h2
        have l2 : y < z := of_decide_eq_true h2
        rw [if_neg (by omega)]; exact decide_eq_true (by omega)
theorem best_le {bt : Nat → Nat → Bool} (tr : ∀ i j k, bt i j = true → bt j k = true → bt i k = true) (ir : ∀ i, bt i i = false) : ∀ m, argBest bt m ≤ m ∧ ∀ j, j ≤ m → bt j (argBest bt m) = false
  | 0 => ⟨Nat.le_refl _, fun j hj => by rw [Nat.le_zero.mp hj]; exact ir 0⟩
  | m + 1 => by
    obtain ⟨h1, h2⟩ := best_le tr ir m
    cases e : bt (m + 1) (argBest bt m) with
    | true =>
      have eb : argBest bt (m + 1) = m + 1 := by simp only [argBest, e, if_true]
      rw [eb]
      refine ⟨Nat.le_refl _, fun j hj => ?_⟩
      by_cases ej : j = m + 1
      · rw [ej]; exact ir _
      · cases e2 : bt j (m + 1) with
        | false => rfl
        | true =>
          have := tr j (m + 1) _ e2 e
          rw [h2 j (by omega)] at this; cases this
    | false =>
      have eb : argBest bt (m + 1) = argBest bt m := by simp only [argBest, e, Bool.false_eq_true, if_false]
      rw [eb]
      refine ⟨Nat.le_succ_of_le h1, fun j hj => ?_⟩
      by_cases ej : j = m + 1
      · rw [ej]; exact e
      · exact h2 j (by omega)
/-- tuples of ints on the heap -/
def TupsAt (K : PySem.W.Frag) (H : Hp) (ts : List Addr) (xss : List (List Int)) : Prop := ts.length = xss.length ∧ ∀ (j : Nat) (t : Addr) (xs : List Int), ts[j]? = some t → xss[j]? = some xs → SqT K H t (xs.map V.int)
def rMinT (K : PySem.W.Frag) : List V → Hp → VK → Prop := fun vs H Q => ∃ (a : Addr) (ts : List Addr) (xss : List (List Int)), vs = [V.ref a] ∧ SqL K H a (ts.map V.ref) ∧ TupsAt K H ts xss ∧ 0 < ts.length ∧
  ∀ (k : Nat) (t : Addr) (xs : List Int), ts[k]? = some t → xss[k]? = some xs → (∀ ys ∈ xss, HT.lexLt ys xs = false) → Q (.ref t) H
section
variable {X : Cx}
theorem refs_get {ts : List Addr} {its : List Value} (rv : Vals (ts.map V.ref) its) {j : Nat} {v : Value} (h : its.toArray[j]? = some v) : ∃ t, ts[j]? = some t ∧ v = .ref t := by
  have h' : its[j]? = some v := by simpa using h
  have hl := rv.length
  rw [List.length_map] at hl
  have hj : j < ts.length := by rw [hl]; exact (List.getElem?_eq_some_iff.mp h').1
  obtain ⟨u, hu, r⟩ := rv.get (i := j) (x := V.ref ts[j]) (by rw [List.getElem?_map, List.getElem?_eq_getElem hj]; rfl)
  rw [h'] at hu
  cases hu
  cases r
  exact ⟨_, List.getElem?_eq_getElem hj, rfl⟩
theorem tup_old {h h' : Heap} {t : Addr} {items : Array Value} (x : IsTup h t items) (k : ∀ b o, h.get? b = some o → h'.get? b = some o) : IsTup h' t items := by
  obtain ⟨o, ho, rest⟩ := x
  exact ⟨o, k _ _ ho, rest⟩
theorem cr_minT (hc : X.calm = true) (hu : X.A.units + 64 < cLine) : CallR X (.builtin "min") (rMinT X.K) := by
  intro pins s σ H vs us Q I r h
  obtain ⟨a, ts, xss, rfl, hs, hT, hne, q⟩ := h
  obtain ⟨its, rv, hl, _⟩ := I.list hs
  rw [Vals.ref1 r]
  have hlen : its.toArray.size = ts.length := by rw [List.size_toArray, ← rv.length, List.length_map]
  have hb := best_le (bt := fun i j => HT.lexLt (xss.getD i []) (xss.getD j [])) (fun i j k => lex_trans) (fun i => lex_irrefl _) (its.toArray.size - 1)
  refine min_list (bt := fun i j => HT.lexLt (xss.getD i []) (xss.getD j [])) (I.ok.hd hc) hl.isList (by rw [hlen]; exact hne) (fun i j vi vj s' Q' E' old hi hj hQ => ?_) fun v h' tk hv hk => ?_
  · obtain ⟨t1, e1, rfl⟩ := refs_get rv hi
    obtain ⟨t2, e2, rfl⟩ := refs_get rv hj
    have l1 : i < xss.length := by rw [← hT.1]; exact (List.getElem?_eq_some_iff.mp e1).1
    have l2 : j < xss.length := by rw [← hT.1]; exact (List.getElem?_eq_some_iff.mp e2).1
    obtain ⟨it1, r1, p1, _⟩ := I.tuple (hT.2 i t1 _ e1 (List.getElem?_eq_getElem l1))
    obtain ⟨it2, r2, p2, _⟩ := I.tuple (hT.2 j t2 _ e2 (List.getElem?_eq_getElem l2))
    have g1 : xss.getD i [] = xss[i] := by rw [List.getD_eq_getElem?_getD, List.getElem?_eq_getElem l1]; rfl
    have g2 : xss.getD j [] = xss[j] := by rw [List.getD_eq_getElem?_getD, List.getElem?_eq_getElem l2]; rfl
    have i1 : IntsAre it1.toArray.toList xss[i] := intsAre_of r1
    have i2 : IntsAre it2.toArray.toList xss[j] := intsAre_of r2
    have w1 : wpAny (model X.prog X.w) X.A.in1 (compareOp .Lt (.ref t1) (.ref t2)) Q' E' s' := by
      refine HT.lt_tupInts (tup_old p1 old) (tup_old p2 old) i1 i2 ?_ ?_
      · show X.A.in1.units < cLine
        have e : X.A.in1.units = X.A.units + 1 := by first | rfl | decide | simp [Around.in1]
        omega
      · rw [← g1, ← g2]; exact hQ
    exact w1
  · obtain ⟨t, et, rfl⟩ := refs_get rv hv
    have lk := (List.getElem?_eq_some_iff.mp et).1
    have lx : argBest (fun i j => HT.lexLt (xss.getD i []) (xss.getD j [])) (its.toArray.size - 1) < xss.length := by rw [← hT.1]; exact lk
    refine ⟨.ref t, H, I.kept hk, rfl, q _ t _ et (List.getElem?_eq_getElem lx) fun ys hy => ?_⟩
    obtain ⟨m, hm, em⟩ := List.mem_iff_getElem.mp hy
    have h2 := hb.2 m (by rw [hlen, hT.1]; omega)
    have g1 : xss.getD m [] = xss[m] := by rw [List.getD_eq_getElem?_getD, List.getElem?_eq_getElem hm]; rfl
    have g2 : xss.getD (argBest (fun i j => HT.lexLt (xss.getD i []) (xss.getD j [])) (its.toArray.size - 1)) [] = xss[argBest (fun i j => HT.lexLt (xss.getD i []) (xss.getD j [])) (its.toArray.size - 1)] := by rw [List.getD_eq_getElem?_getD, List.getElem?_eq_getElem lx]; rfl
    have h3 : HT.lexLt (xss.getD m []) (xss.getD (argBest (fun i j => HT.lexLt (xss.getD i []) (xss.getD j [])) (its.toArray.size - 1)) []) = false := h2
    rw [g1, g2, em] at h3
    exact h3
end
end L2

set_option Elab.async false
set_option linter.all false
set_option maxRecDepth 100000
set_option maxHeartbeats 4000000
namespace L2
open PySem
def wrth (ns : List Int) (b e : Nat) : Int := mn ns b e * ((e : Int) - b)
structure IsBest (ns : List Int) (W : Int) (b e : Nat) : Prop where
  be : b < e
  en : e ≤ ns.length
  w : W = wrth ns b e
  top : ∀ b' e', b' < e' → e' ≤ ns.length → wrth ns b' e' < W ∨ (wrth ns b' e' = W ∧ (b < b' ∨ (b = b' ∧ e ≤ e')))
theorem IsBest.uniq {ns : List Int} {W W' : Int} {b e b' e' : Nat} (h : IsBest ns W b e) (h' : IsBest ns W' b' e') : W = W' ∧ b = b' ∧ e = e' := by
  have h1 := h.top b' e' h'.be h'.en
  have h2 := h'.top b e h.be h.en
  rw [← h'.w] at h1
  rw [← h.w] at h2
  omega
theorem lex3 {a b c d e f : Int} (h : HT.lexLt [a, b, c] [d, e, f] = false) : d ≤ a ∧ (a = d → e ≤ b ∧ (b = e → f ≤ c)) := by
  rw [HT.lexLt_cons] at h
  by_cases e1 : a = d
  · rw [if_pos e1, HT.lexLt_cons] at h
    by_cases e2 : b = e
    · rw [if_pos e2, HT.lexLt_cons] at h
      by_cases e3 : c = f
      · omega
      · rw [if_neg e3] at h
        have := of_decide_eq_false h
        omega
    · rw [if_neg e2] at h
      have := of_decide_eq_false h
      omega
  · rw [if_neg e1] at h
    have := of_decide_eq_false h
    omega
def candB (ns : List Int) (ps : List (Int × Int)) (i : Nat) : Int := if 0 < vl ns i then (ps.getD i (0, 0)).1 else (i : Int)
def candE (ns : List Int) (ps : List (Int × Int)) (i : Nat) : Int := if 0 < vl ns i then (ps.getD i (0, 0)).2 else (i : Int) + 1
def candL (ns : List Int) (ps : List (Int × Int)) (i : Nat) : List Int := [-(vl ns i) * (candE ns ps i - candB ns ps i), candB ns ps i, candE ns ps i]
theorem reach_at {ns : List Int} {ps : List (Int × Int)} (h : AreReaches ns ps) {i : Nat} (hi : i < ns.length) : ps[i]? = some (ps.getD i (0, 0)) ∧ ∃ b e : Nat, ps.getD i (0, 0) = ((b : Int), (e : Int)) ∧ IsReach ns i b e := by
  have hil : i < ps.length := by rw [h.1]; exact hi
  have e : ps[i]? = some (ps.getD i (0, 0)) := by rw [List.getD_eq_getElem?_getD, List.getElem?_eq_getElem hil]; rfl
  exact ⟨e, h.2 i _ e⟩
/-- a place's stretch to try -/
theorem cand_at {ns : List Int} {ps : List (Int × Int)} (ar : AreReaches ns ps) {i : Nat} (hi : i < ns.length) : ∃ b e : Nat, candB ns ps i = b ∧ candE ns ps i = e ∧ b ≤ i ∧ i < e ∧ e ≤ ns.length ∧ wrth ns b e = vl ns i * ((e : Int) - b) ∧
    (0 < vl ns i → IsReach ns i b e) ∧ (¬ 0 < vl ns i → b = i ∧ e = i + 1) := by
  unfold candB candE
  by_cases hv : 0 < vl ns i
  · obtain ⟨_, b, e, ep, hr⟩ := reach_at ar hi
    rw [if_pos hv, if_pos hv, ep]
    refine ⟨b, e, rfl, rfl, hr.bi, hr.ie, hr.en, ?_, fun _ => hr, fun z => absurd hv z⟩
    unfold wrth
    rw [mn_eq hr.bi hr.ie hr.en fun k h1 h2 => ?_]
    by_cases hk : k < i
    · exact Int.le_of_lt (hr.bg k h1 hk)
    · exact hr.eg k (by omega) h2
  · rw [if_neg hv, if_neg hv]
    refine ⟨i, i + 1, rfl, by simp, Nat.le_refl _, Nat.lt_succ_self _, hi, ?_, fun z => absurd z hv, fun _ => ⟨rfl, rfl⟩⟩
    unfold wrth
    rw [mn_eq (Nat.le_refl i) (Nat.lt_succ_self i) hi fun k h1 h2 => ?_]
    have : k = i := by omega
    rw [this]; exact Int.le_refl _
/-- the first least place of a stretch -/
theorem first_at {ns : List Int} {b e : Nat} (h : b < e) (he : e ≤ ns.length) : ∃ i, b ≤ i ∧ i < e ∧ mn ns b e = vl ns i ∧ i = b + pl (seg ns (b : Int) (e : Int)) := by
  have st : IsSt ns.length (b : Int) (e : Int) := ⟨by omega, by omega, by omega⟩
  have hm := (minL_spec (seg_ne st)).1
  have hf := (fst_at hm).2.1
  have sl := seg_len st
  refine ⟨b + pl (seg ns (b : Int) (e : Int)), by omega, ?_, (least_at h he).symm, rfl⟩
  unfold pl
  omega
theorem best_of {ns : List Int} {ps : List (Int × Int)} (ar : AreReaches ns ps) {k : Nat} (hk : k < ns.length) (hmin : ∀ i, i < ns.length → HT.lexLt (candL ns ps i) (candL ns ps k) = false) :
    ∃ b e : Nat, candB ns ps k = b ∧ candE ns ps k = e ∧ IsBest ns (vl ns k * ((e : Int) - b)) b e := by
  obtain ⟨b, e, eb, ee, h1, h2, h3, hw, _, _⟩ := cand_at ar hk
  -- against each place's stretch
  have vs : ∀ i, i < ns.length → ∃ bi ei : Nat, candB ns ps i = bi ∧ candE ns ps i = ei ∧ bi ≤ i ∧ i < ei ∧ ei ≤ ns.length ∧ (0 < vl ns i → IsReach ns i bi ei) ∧ (¬ 0 < vl ns i → bi = i ∧ ei = i + 1) ∧
      vl ns i * ((ei : Int) - bi) ≤ vl ns k * ((e : Int) - b) ∧ (vl ns i * ((ei : Int) - bi) = vl ns k * ((e : Int) - b) → b < bi ∨ (b = bi ∧ e ≤ ei)) := fun i hi => by
    obtain ⟨bi, ei, ebi, eei, i1, i2, i3, iw, r1, r2⟩ := cand_at ar hi
    have hm := hmin i hi
    unfold candL at hm
    rw [eb, ee, ebi, eei] at hm
    obtain ⟨m1, m2⟩ := lex3 hm
    rw [Int.neg_mul, Int.neg_mul] at m1 m2
    refine ⟨bi, ei, ebi, eei, i1, i2, i3, r1, r2, by omega, fun eq => ?_⟩
    obtain ⟨m3, m4⟩ := m2 (by omega)
    by_cases q : b = bi
    · exact .inr ⟨q, by have := m4 (by omega); omega⟩
    · exact .inl (by omega)
  refine ⟨b, e, eb, ee, by omega, h3, hw.symm, fun b' e' hb' he' => ?_⟩
  obtain ⟨i, i1, i2, im, ip⟩ := first_at hb' he'
  have hi : i < ns.length := by omega
  have ew : wrth ns b' e' = vl ns i * ((e' : Int) - b') := by unfold wrth; rw [im]
  rw [ew]
  obtain ⟨bi, ei, _, _, q1, q2, q3, r1, r2, le, eq⟩ := vs i hi
  obtain ⟨_, rb, re, _, hr⟩ := reach_at ar hi
  obtain ⟨w1, w2⟩ := (holder hr i1 i2 he').mpr ip
  rcases Int.lt_trichotomy 0 (vl ns i) with hv | hv | hv
  · -- above 0: no longer than the reach
    have hre := r1 hv
    obtain ⟨u1, u2⟩ := hre.uniq hr
    subst u1 u2
    by_cases ql : b' = bi ∧ e' = ei
    · rw [ql.1, ql.2]
      by_cases qe : vl ns i * ((ei : Int) - bi) = vl ns k * ((e : Int) - b)
      · exact .inr ⟨qe, eq qe⟩
      · exact .inl (by omega)
    · have : vl ns i * ((e' : Int) - b') < vl ns i * ((ei : Int) - bi) := Int.mul_lt_mul_of_pos_left (by omega) hv
      exact .inl (by omega)
  · -- 0
    obtain ⟨u1, u2⟩ := r2 (by omega)
    rw [← hv, Int.zero_mul] at le eq ⊢
    by_cases qb : b' = i
    · by_cases qe : (0 : Int) = vl ns k * ((e : Int) - b)
      · refine .inr ⟨qe, ?_⟩
        have := eq qe
        omega
      · exact .inl (by omega)
    · have hpos : vl ns i < vl ns b' := hr.bg b' (by omega) (by omega)
      obtain ⟨bj, ej, _, _, j1, j2, j3, _, _, lej, _⟩ := vs b' (by omega)
      have : 0 < vl ns b' * ((ej : Int) - bj) := Int.mul_pos (by omega) (by omega)
      exact .inl (by omega)
  · -- below 0: one number
    obtain ⟨u1, u2⟩ := r2 (by omega)
    subst u1 u2
    have e1 : vl ns bi * (((bi + 1 : Nat) : Int) - bi) = vl ns bi := by
      rw [show ((bi + 1 : Nat) : Int) - bi = 1 by omega, Int.mul_one]
    rw [e1] at le eq
    by_cases ql : e' = b' + 1
    · have eb' : b' = bi := by omega
      subst ql eb'
      rw [e1]
      by_cases qe : vl ns b' = vl ns k * ((e : Int) - b)
      · exact .inr ⟨qe, eq qe⟩
      · exact .inl (by omega)
    · have : vl ns bi * ((e' : Int) - b') < vl ns bi * 1 := Int.mul_lt_mul_of_neg_left (by omega) hv
      rw [Int.mul_one] at this
      exact .inl (by omega)
end L2

set_option Elab.async false
set_option linter.all false
set_option maxRecDepth 100000
set_option maxHeartbeats 4000000
namespace L2
open PySem
section
variable {X : Cx} {K : PySem.W.Frag}
end
end L2

set_option Elab.async false
set_option linter.all false
set_option maxRecDepth 100000
set_option maxHeartbeats 4000000
namespace L2
open PySem PyProof.Rows PySem.W PySem.Calls
section
variable {X : Cx}
end
end L2

set_option Elab.async false
set_option linter.all false
set_option maxRecDepth 100000
set_option maxHeartbeats 4000000
namespace L2
open PySem
section
variable {X : Cx} {j k : Nat} {C : Addr} {x m : Str} {ps : List Str} {sp : Sp} {p pos apos : Pos} {o : Expr} {ta : TE}
end
end L2

set_option Elab.async false
set_option linter.all false
set_option maxRecDepth 100000
set_option maxHeartbeats 4000000
namespace L2
open PySem
theorem seg_front {ns ms : List Int} {i j : Nat} (h : j ≤ ns.length) : seg (ns ++ ms) (i : Int) (j : Int) = seg ns (i : Int) (j : Int) := by
  unfold seg
  simp only [Int.toNat_natCast]
  by_cases hi : i ≤ ns.length
  · rw [List.drop_append_of_le_length hi, List.take_append_of_le_length (by rw [List.length_drop]; omega)]
  · rw [show j - i = 0 by omega]; simp
end L2

set_option Elab.async false
set_option linter.all false
set_option maxRecDepth 100000
set_option maxHeartbeats 4000000
namespace L2
open PySem
end L2

set_option Elab.async false
set_option linter.all false
set_option maxRecDepth 100000
set_option maxHeartbeats 4000000
namespace L2
open PySem
end L2

set_option Elab.async false
set_option linter.all false
set_option maxRecDepth 100000
set_option maxHeartbeats 4000000
namespace HT
open PySem PyProof.Rows
section
open PySem.SeqAt
open PySem.AutoSeq1 (wpAny_loadPart')
open PySem.MeetsSeq PySem.MeetsSeq2 PySem.MeetsSeq3
end
section
variable {prog : Program} {w : World} {A : Around} {E : Value → Shared → Prop} {s : Shared}
end
end HT
namespace L2
open PySem
end L2

set_option Elab.async false
set_option linter.all false
set_option maxRecDepth 100000
set_option maxHeartbeats 4000000
namespace L2
open PySem
theorem IsBest.more {ns : List Int} {x W W' : Int} {b e b' e' : Nat} (h : IsBest ns W b e) (h' : IsBest (ns ++ [x]) W' b' e') : W ≤ W' := by
  have l := h'.top b e h.be (by rw [List.length_append]; have := h.en; omega)
  have ew : wrth (ns ++ [x]) b e = wrth ns b e := by unfold wrth mn; rw [seg_front h.en]
  rw [ew, ← h.w] at l
  omega
end L2

set_option Elab.async false
set_option linter.all false
set_option maxRecDepth 100000
set_option maxHeartbeats 4000000
namespace L2
open PySem
end L2

set_option Elab.async false
set_option linter.all false
set_option maxRecDepth 100000
set_option maxHeartbeats 4000000
namespace L2
open PySem PySem.Spec PyProof.Rows PySem.W PySem.Calls
end L2

set_option Elab.async false
set_option linter.all false
set_option maxRecDepth 100000
set_option maxHeartbeats 4000000
namespace L2
open PySem PySem.Spec PyProof.Rows PySem.W PySem.Calls
end L2

set_option Elab.async false
set_option linter.all false
set_option maxRecDepth 100000
set_option maxHeartbeats 4000000
namespace L2
open PySem PySem.Spec PyProof.Rows PySem.W PySem.Calls
end L2

set_option Elab.async false
set_option linter.all false
set_option maxRecDepth 100000
set_option maxHeartbeats 4000000
namespace L2
open PySem PySem.Spec PyProof.Rows PySem.W PySem.Calls
theorem IsBL.len {ns : List Int} {ps : List (Int × Int)} (h : IsBL ns ps) : ps.length ≤ ns.length := by
  have hnd : (ps.map (·.1)).Nodup := by
    rw [List.Nodup, List.pairwise_map]
    exact h.rise.imp fun h z => by omega
  have hsub : ∀ v ∈ ps.map (·.1), v ∈ ns := fun v hv => by
    obtain ⟨p', hp', rfl⟩ := List.mem_map.mp hv
    exact (h.each p' hp').1
  have := hnd.length_le_of_subset hsub
  rwa [List.length_map] at this
theorem IsBL.nd {ns : List Int} {ps : List (Int × Int)} (h : IsBL ns ps) : (ps.map (·.1)).Nodup := by
  rw [List.Nodup, List.pairwise_map]
  exact h.rise.imp fun h z => by omega
end L2

set_option Elab.async false
set_option linter.all false
set_option maxRecDepth 100000
set_option maxHeartbeats 4000000
namespace L2
open PySem PySem.Spec PyProof.Rows PySem.W PySem.Calls
end L2

set_option Elab.async false
set_option linter.all false
set_option maxRecDepth 100000
set_option maxHeartbeats 4000000
namespace L2
open PySem PySem.Spec PyProof.Rows
open AutoSeq1 (wpAny_loadPart')

abbrev itO (l : Addr) : Obj := { cls := .type "list_iterator", data := .fields #[.ref l, .int 0 0] }
abbrev enO (it : Addr) (c : Int) : Obj := { cls := .type "enumerate", data := .fields #[.none, .bool false, .ref it, rawInt c, .none, .none] }
theorem meets_enum1 (l : Addr) (items : Array Value) (n : Nat) (dct : Option Addr) (sl : Array (Option Value)) (t : Tok) :
    Meets (Builtin.«enumerate.__new__» ⟨[.type "enumerate", .ref l], [("start", .int 1 t)]⟩) (fun _ R s => s.heap.get? l = some ⟨.type "list", dct, .seq items n, sl⟩ ∧
      R (.ok (.ret (.ref (s.heap.push (itO l)).objs.size))) { s with heap := (s.heap.push (itO l)).push (enO s.heap.objs.size 1) }) :=
  .of_wp fun prog w A R s q => by
    obtain ⟨hp, gn, dn, tk, os⟩ := s
    obtain ⟨hl, h⟩ := q
    have hsub := sub_enumerate
    have hL : Heap.IsList (Shared.heap ⟨hp, gn, dn, tk, os⟩) l items := ⟨_, hl, rfl, n, rfl⟩
    wp_walk using wpAny_loadPart' hl
    refine wpAny_stack_any fun st => wpAny_pure ?_
    split
    · rename_i c _ _ _ _ _
      cases (c == Value.type "enumerate") <;> (wp_walk using wpAny_loadPart' hl, wpAny_pyIter_list hL) <;> exact ⟨_, rfl, h⟩
    · (wp_walk using wpAny_loadPart' hl, wpAny_pyIter_list hL) <;> exact ⟨_, rfl, h⟩

section
variable {prog : Program} {w : World} {A : Around} {E : Value → Shared → Prop} {s : Shared}
theorem weight_tcK (T : String) (as : List Value) (kw : List (Str × Value)) : (Code.builtin "type.__call__" ⟨.type T :: as, kw⟩).weight = 0 := rfl
theorem init_kw {T newId : String} {self : Value} {rest : List Value} {kw : List (Str × Value)} (hl : typeLookup (.type T) "__init__" = pure (some (.builtin "object.__init__")))
    (hm : Bind.madeBy (.type T) = pure (some newId)) (hne : (some newId != some "object.__new__") = true) {A : Around} {R : Result → Shared → Prop} (hT : s.TypeIs self T) (hq : R (.ok (.ret .none)) s) (hr : rest.isEmpty = false) :
    Meets (Builtin.«object.__init__» ⟨self :: rest, kw⟩) (fun _ R s => s.TypeIs self T ∧ R (.ok (.ret .none)) s) := by
  refine .of_wp fun prog w A R s hs => ?_
  obtain ⟨hT, hq⟩ := hs
  cases rest with
  | nil => cases hr
  | cons a rest =>
    (repeat any_goals (first | (assumption) | (wp_step)))
    exact ⟨_, rfl, hq⟩
/-- a built-in class called with keywords too -/
theorem callTyK {T newId : String} {Bn : Builtin} {as : List Value} {kw : List (Str × Value)} {S : PySem.Spec} {Q : Value → Shared → Prop} (ft : TypeCalled T newId "object.__init__") (hne : (some newId != some "object.__new__") = true) (hr : as.isEmpty = false)
    (hct : checkTypeCall T ⟨as, kw⟩ = pure ()) (hcn : checkBuiltinCall newId ⟨.type T :: as, kw⟩ = pure ()) (hok : ∀ obj, argsOk "object.__init__" ⟨obj :: as, kw⟩)
    (entryN : entryFor table newId = some Bn) (g : Meets (Bn ⟨.type T :: as, kw⟩) S) (h : S A.in1 (wants (fun obj s₁ => s₁.TypeIs obj T ∧ Q obj s₁) E) s) : wpAny (model prog w) A (call (.type T) as kw) Q E s := by
  obtain ⟨c, tl, hmro⟩ := ft.mro
  have hmade := ft.made
  have hsub := ft.sub
  refine wpAny_call (codeAny_of_tree ?_)
  show wpAny _ _ (callAny (.type T) _) _ _ _
  refine wpAny_pure ⟨Code.quiet_builtin _ (by decide +kernel), codeAny_builtin F.entry_type_call ?_⟩
  rw [Around.under_plain (weight_tcK T as kw) rfl]
  have h1 := ft.notType
  have h2 := ft.canCreate
  (repeat any_goals (first | (assumption) | (wp_step)))
  refine codeAny_mono (codeAny_call_builtin ft.plain entryN (wpAny_of_eq hcn (g prog w A.in1 _ s h))) fun r s₁ q => ?_
  cases r with
  | error e => exact q
  | ok fl =>
    cases fl with
    | ret obj =>
      obtain ⟨hT, hq⟩ := q
      have hli := ft.init.lookup
      have hbi := ft.init.bind obj
      (repeat any_goals (first | (assumption) | (wp_step)))
      have gi := init_kw (kw := kw) (A := A) (R := fun _ _ => True) (rest := as) ft.init.lookup ft.made hne hT trivial hr
      refine codeAny_mono (codeAny_call_builtin ft.init.plain F.entry_object_init (ft.init.check _ _ _ _ _ _ _ _ hT (hok obj) (gi prog w A.in1 (wants (fun r s₂ => r = .none ∧ Q obj s₂) E) s₁ ⟨hT, rfl, hq⟩))) fun r₂ s₂ q₂ => ?_
      cases r₂ with
      | error e => exact q₂
      | ok fl₂ =>
        cases fl₂ with
        | ret r =>
          obtain ⟨rfl, hq⟩ := q₂
          (repeat any_goals (first | (assumption) | (wp_step)))
        | _ => exact q₂.elim
    | _ => exact q.elim
theorem tcall_enum1 (l : Addr) (t : Tok) : checkTypeCall "enumerate" ⟨[.ref l], [("start", .int 1 t)]⟩ = pure () := by kernel_rfl
theorem ncall_enum1 (l : Addr) (t : Tok) : checkBuiltinCall "enumerate.__new__" ⟨[.type "enumerate", .ref l], [("start", .int 1 t)]⟩ = pure () := by kernel_rfl
theorem init_args1 (obj : Value) (l : Addr) (t : Tok) : argsOk "object.__init__" ⟨[obj, .ref l], [("start", .int 1 t)]⟩ := by
  unfold argsOk; rw [signature?_of (id := "object.__init__") (n := "__init__".toList.reverse) (o := "object".toList.reverse) (by kernel_rfl) F.owner_object]; kernel_rfl
theorem call_enum1 {l : Addr} {items : Array Value} {t : Tok} {Q : Value → Shared → Prop} (hL : s.heap.IsList l items)
    (h : ∀ h', IsEnum h' (s.heap.objs.size + 1) s.heap.objs.size 1 .none → h'.IsListIter s.heap.objs.size l 0 → h'.objs.size = s.heap.objs.size + 2 → (∀ b o, s.heap.get? b = some o → h'.get? b = some o) → Q (.ref (s.heap.objs.size + 1)) { s with heap := h' }) :
    wpAny (model prog w) A (call (.type "enumerate") [.ref l] [("start", .int 1 t)]) Q E s := by
  obtain ⟨⟨c, dct, dt, sl⟩, hl, hc, n, hd⟩ := hL
  have hc' : c = .type "list" := hc
  have hd' : dt = .seq items n := hd
  subst hc' hd'
  refine callTyK F.called_enumerate (by decide) rfl (tcall_enum1 _ _) (ncall_enum1 _ _) (fun obj => init_args1 obj _ _) F.entry_enumerate_new (meets_enum1 l items n dct sl t) ⟨hl, ?_⟩
  have hz : (s.heap.push (itO l)).objs.size = s.heap.objs.size + 1 := Heap.size_push ..
  show _ ∧ _
  rw [hz]
  have he : IsEnum ((s.heap.push (itO l)).push (enO s.heap.objs.size 1)) (s.heap.objs.size + 1) s.heap.objs.size 1 .none := by
    have := Heap.get?_push_size (s.heap.push (itO l)) (o := enO s.heap.objs.size 1) rfl
    rw [hz] at this; exact this
  refine ⟨⟨_, he, rfl⟩, h _ he ⟨_, Heap.get?_push_of_some _ (Heap.get?_push_size _ rfl), rfl, rfl⟩ (by rw [Heap.size_push, hz]) fun b o x => ?_⟩
  exact Heap.get?_push_of_some _ (Heap.get?_push_of_some _ x)
end
end L2

set_option Elab.async false
set_option linter.all false
set_option maxRecDepth 100000
set_option maxHeartbeats 4000000
namespace L2
open PySem PySem.Spec PyProof.Rows

theorem draws1 {prog : Program} {w : World} {A : Around} (hh : A.handled = none) (it l : Addr) (hne : l ≠ it) (items : Array Value) :
    Draws prog w A it [it, l] (items.size + 1) (fun j x => items[j - 1]? = some x) (fun j h => ∃ i, j = i + 1 ∧ h.IsListIter it l i ∧ h.IsList l items) where
  live := fun j h st => by
    obtain ⟨i, _, ⟨o, e, _⟩, _⟩ := st
    exact ⟨o, e⟩
  frame := fun j h h' st k => by
    obtain ⟨i, e, h1, h2⟩ := st
    exact ⟨i, e, h1.at fun o x => k it (by simp) o x, h2.at fun o x => k l (by simp) o x⟩
  item := fun j s Q E hj st hQ => by
    obtain ⟨i, rfl, h1, h2⟩ := st
    have hi : i < items.size := by omega
    refine wpAny_nextOf_list_item h1 h2 (Array.getElem?_eq_getElem hi) fun h' i' sb => ?_
    exact hQ _ h' s.toks (by simp [hi]) ⟨i + 1, rfl, i', h2.at fun o x => (sb.2 l hne).trans x⟩ sb
  done := fun s Q E st hE => by
    obtain ⟨i, e, h1, h2⟩ := st
    have : i = items.size := by omega
    subst this
    exact wpAny_nextOf_list_end hh h1 h2 (Array.getElem?_eq_none (Nat.le_refl _)) hE
theorem WalksU.shift {prog : Program} {w : World} {A : Around} {I : Addr} {fp wr : List Addr} {n : Nat} {Pt : Nat → Array Value → Prop} {St : Nat → Heap → Prop} {Mid : Nat → Addr → Heap → Prop} (W : WalksU prog w A I fp wr (n + 1) Pt St Mid) :
    WalksU prog w A I fp wr n (fun i => Pt (i + 1)) (fun i => St (i + 1)) (fun i => Mid (i + 1)) where
  sub := W.sub
  frame := fun i => W.frame (i + 1)
  item := fun i s Q E hi => W.item (i + 1) s Q E (by omega)
  go := fun elts k pos i => W.go elts k pos (i + 1)
  apart := fun i => W.apart (i + 1)
  done := W.done
  self := fun i => W.self (i + 1)

theorem callWith_tyK {M : Model} {A : Around} {E : Value → Shared → Prop} {s : Shared} {env : Env} {pos : Pos} {T : String} {e : Expr} {rest : List Expr} {kws : List Keyword} {Q : Value → Shared → Prop}
    (h : wpAny M A (spliced (backTo pos (starEach (e :: rest) env))) (fun vs s₁ => wpAny M A (evalAll ((backToKw pos (keywordEach kws env)).map (·.2)))
      (fun kvs s₂ => wpAny M A (call (.type T) vs (((backToKw pos (keywordEach kws env)).filterMap (·.1)).zip kvs)) Q E s₂) E s₁) E s)
    (he : backTo pos (starEach (e :: rest) env) = (false, eval e env) :: backTo pos (starEach rest env)) (hp : (backTo pos (starEach (e :: rest) env)).any (·.1) = false)
    (ha : (backToKw pos (keywordEach kws env)).all (·.1.isSome) = true) (hk : (backToKw pos (keywordEach kws env)).any (·.1.isNone) = false) :
    wpAny M A (callWith pos (.type T) [] (backTo pos (starEach (e :: rest) env)) (backToKw pos (keywordEach kws env))) Q E s := by
  unfold callWith
  rw [he] at h hp ⊢
  refine wpAny_bind (wpAny_holding (wpAny_mono (evalArgs_kwB (Q := fun a s₁ => wpAny M A (call (.type T) a.pos a.kw) Q E s₁) ha h) (fun a s₁ h₁ => wpAny_bind (wpAny_standAt ?_)) fun _ _ x => x))
  simp only [hp, hk, Bool.or_false]
  refine wpAny_bind (wpAny_pure ?_)
  exact wpAny_bind (wpAny_mono h₁ (fun r s₂ z => wpAny_bind (wpAny_holding (wpAny_point (wpAny_pure z)))) fun _ _ x => x)

def Ite1 (K : PySem.W.Frag) (a : Addr) : It :=
  ⟨fun i H => ∃ (xs : List V) (x : V), SqL K H a xs ∧ xs[i]? = some x, fun i H v H' => ∃ T x, v = .ref T ∧ H T = none ∧ H' = upd H T (.tup [.int ((i + 1 : Nat) : Int), x]) ∧ ∀ xs, SqL K H a xs → xs[i]? = some x, fun i H => ∃ xs : List V, SqL K H a xs ∧ xs.length ≤ i⟩
theorem turn_enum1 {P : Program} {w : World} {K : PySem.W.Frag} {elts : List Expr} {kk : Nat} {tpos : Pos} (a e it : Addr) (hai : a ≠ it) (hae : a ≠ e) :
    Turn P w K (.Tuple elts kk tpos) (Ite1 K a) [e, it] e (fun i h => (∃ old, IsEnum h e it ((i + 1 : Nat) : Int) old) ∧ h.IsListIter it a i ∧ e ≠ it) where
  mem := by simp
  obj := fun i h st b hb => by
    obtain ⟨⟨old, he⟩, ⟨o, ho, hc, hd⟩, _⟩ := st
    rcases (by simpa using hb : b = e ∨ b = it) with z | z
    · rw [z]; exact ⟨_, he, fun v q => nomatch q⟩
    · rw [z]; exact ⟨o, ho, fun v q => by rw [hd] at q; cases q⟩
  keep := fun i h h' st k => by
    obtain ⟨⟨old, he⟩, hi, hne⟩ := st
    exact ⟨⟨old, k e (by simp) _ he⟩, hi.at fun o q => k it (by simp) o q, hne⟩
  item := by
    intro X hP hw hK hc i pins s σ H E I hf st hg
    subst hP hw hK
    obtain ⟨⟨old, he⟩, hit, hne⟩ := st
    obtain ⟨xs, x, hq, hx⟩ := hg
    obtain ⟨its, rv, p, hz⟩ := I.list hq
    obtain ⟨u, hu, ru⟩ := rv.get hx
    have hel : e < s.heap.objs.size := Heap.lt_size he
    have hil : it < s.heap.objs.size := by obtain ⟨_, q, _⟩ := hit; exact Heap.lt_size q
    have hi : i < its.toArray.size := by rw [List.size_toArray]; exact (List.getElem?_eq_some_iff.mp hu).1
    refine wpAny_pyNext_enum_itemD (draws1 (A := X.A.in1) (I.ok.hd hc) it a hai its.toArray) he ⟨i, rfl, hit, p.isList⟩ (by omega) hne (by simp [hne, Ne.symm hae]) fun x' h' tk hPx ho hit' hT hsz hk => ?_
    obtain ⟨i', ei, hit', _⟩ := hit'
    have ei' : i' = i + 1 := by omega
    subst ei'
    have ex : x' = u := by
      have z : its.toArray[i + 1 - 1]? = some x' := hPx
      simp [hu] at z
      exact z.symm
    subst ex
    refine ⟨_, rfl, wpAny_letOwnedTupleGo_enum (s := { s with heap := h', toks := tk + 1 }) ho fun h'' he' sb => ?_⟩
    have hT2 : h''.get? s.heap.objs.size = some { cls := .type "tuple", data := .seq #[.int ((i + 1 : Nat) : Int) tk, x'] } := (sb.2 _ (Nat.ne_of_gt hel)).trans hT
    have new : ObjOk X.prog X.w (upd H s.heap.objs.size (.tup [.int ((i + 1 : Nat) : Int), x])) h'' s.heap.objs.size (.tup [.int ((i + 1 : Nat) : Int), x]) :=
      ⟨by show 2 ≤ sizeLine; decide, [.int ((i + 1 : Nat) : Int) tk, x'], .cons ⟨_, rfl⟩ (.cons ru .nil), ⟨_, hT2, rfl, _, rfl⟩⟩
    have I1 : Inv X pins σ (upd H s.heap.objs.size (.tup [.int ((i + 1 : Nat) : Int), x])) { s with heap := h'', toks := tk + 1 } :=
      I.turnedNew (ch := [e, it]) (fun b ob hb q => (sb.2 b (fun z => hb (by simp [z]))).trans (hk b ob (fun z => hb (by simp [z])) (fun z => hb (by simp [z])) q)) hf (Nat.le_refl _) new
    refine ⟨.ref s.heap.objs.size, _, I1, rfl, ⟨_, x, rfl, I.hok.fresh (Nat.le_refl _), rfl, fun ys hy => by rw [I.list_inj hy hq]; exact hx⟩, ⟨⟨x', ?_⟩, hit'.at fun o q => (sb.2 it (Ne.symm hne)).trans q, hne⟩, fun b hb => ?_⟩
    · have e1 : ((i + 1 + 1 : Nat) : Int) = ((i + 1 : Nat) : Int) + 1 := by omega
      rw [e1]; exact he'
    · have hb' : b < s.heap.objs.size := by
        rcases (by simpa using hb : b = e ∨ b = it) with z | z
        · rw [z]; exact hel
        · rw [z]; exact hil
      rw [upd_ne (Nat.ne_of_lt hb')]
      exact (hf b hb).1
  done := by
    intro X hP hw hK hc i pins s σ H E I hf st hg
    subst hP hw hK
    obtain ⟨⟨old, he⟩, hit, hne⟩ := st
    obtain ⟨xs, hq, hx⟩ := hg
    obtain ⟨its, rv, p, hz⟩ := I.list hq
    obtain ⟨f0, f1, f2, f3, f4, f5⟩ := hf it (by simp)
    have hl := rv.length
    have D : Draws X.prog X.w X.A.in1 it [it, a] 0 (fun _ _ => False) (fun _ h => h.IsListIter it a i ∧ h.IsList a its.toArray) :=
      ⟨fun _ h st => by obtain ⟨⟨o, e, _⟩, _⟩ := st; exact ⟨o, e⟩, fun _ h h' st k => ⟨st.1.at fun o x => k it (by simp) o x, st.2.at fun o x => k a (by simp) o x⟩, fun _ _ _ _ z => absurd z (Nat.not_lt_zero _),
        fun s Q E st hE => wpAny_nextOf_list_end (I.ok.hd hc) st.1 st.2 (by simp; omega) hE⟩
    exact wpAny_pyNext_enum_endD D he ⟨hit, p.isList⟩ fun h' eb => ⟨rfl, I.turned (t' := s.toks) (fun b o hb q => eb b o hb q) f0 f1 f3 f4 f5⟩
  self := fun A i s Q E st h => let ⟨⟨_, he⟩, _⟩ := st; wpAny_pyIter_enum he h

def iEnum1 (K : PySem.W.Frag) (ta : TA) : TI := fun σ H R => ta σ H fun vs H1 => ∃ a xs, vs = [.ref a] ∧ SqL K H1 a xs ∧ R (Ite1 K a) H1
theorem pi_enum1 {X : Cx} {e : Expr} {ta : TA} {p pos tpos kp cp : Pos} {j : Nat} {elts : List Expr} {kk : Nat} (hg : Gl X "enumerate") (hm : X.mg "enumerate" = none) (ha : PA X [e] ta) (hs : starEach [e] X.env = [(false, eval e X.env)] := by rfl) :
    PI X (.Tuple elts kk tpos) (.Call (.Name "enumerate" p) [e] [⟨some "start", .Constant (.int 1) j cp, kp⟩] pos) (iEnum1 X.K ta) := by
  intro pins s σ H R I h
  refine wpAny_Call_Name_kw (ld_blt I hg hm boot_enumerate (callWith_tyK (thn (ha pos pins s σ H _ I h) fun us s1 ⟨vs, H1, I1, r1, q1⟩ => kws_cons (wpAny_Constant_int (kws_nil ?_))) (by rw [hs]; rfl) (by rw [hs]; rfl) rfl rfl))
  obtain ⟨a, xs, ex, hq, q⟩ := q1
  subst ex
  cases r1 with
  | cons r rr =>
    cases rr
    cases r
    obtain ⟨its, rv, p', hz⟩ := I1.list hq
    have hal : a < s1.heap.objs.size := by obtain ⟨_, z, _⟩ := p'.isList; exact Heap.lt_size z
    refine call_enum1 (s := { s1 with toks := _ }) p'.isList fun h' he hit hsz hk => wpAny_pyIter_enum he ?_
    have I2 : Inv X pins σ H1 { s1 with heap := h', toks := s1.toks + 1 } := I1.kept (t' := s1.toks + 1) hk
    refine ⟨s1.heap.objs.size + 1, [s1.heap.objs.size + 1, s1.heap.objs.size], _, _, H1, rfl, I2, turn_enum1 a (s1.heap.objs.size + 1) s1.heap.objs.size (Nat.ne_of_lt hal) (Nat.ne_of_lt (Nat.lt_succ_of_lt hal)), ⟨⟨.none, he⟩, hit, Nat.succ_ne_self _⟩, fun b hb => ?_, q⟩
    have hle : s1.heap.objs.size ≤ b := by
      rcases (by simpa using hb : b = s1.heap.objs.size + 1 ∨ b = s1.heap.objs.size) with z | z
      · rw [z]; exact Nat.le_add_right _ _
      · rw [z]; exact Nat.le_refl _
    exact I1.fpOk hle (I1.hok.fresh hle)
theorem for_enum1 {K : PySem.W.Frag} {a : Addr} {xs : List V} {g : TG} {tb : TS} {D : Ends} {σ : St} {H : Hp} (Pv : Nat → St → Hp → Prop) (h0 : Pv 0 σ H) (hl : ∀ i σ H, i ≤ xs.length → Pv i σ H → SqL K H a xs)
    (hs : ∀ i x σ H T, xs[i]? = some x → Pv i σ H → H T = none → g (.ref T) σ (upd H T (.tup [.int ((i + 1 : Nat) : Int), x])) fun σ2 H2 => tb { D with nx := Pv (i + 1), ct := Pv (i + 1), bk := D.nx } σ2 H2) (hd : ∀ σ H, Pv xs.length σ H → D.nx σ H) :
    ∃ W : Nat → Nat → St → Hp → Prop, (∃ m, W 0 m σ H) ∧ ∀ i m σ H, W i m σ H →
      ((Ite1 K a).stop i H ∧ D.nx σ H) ∨ ((Ite1 K a).go i H ∧ ∃ N : St → Hp → Prop, (∀ σ' H', N σ' H' → ∃ m', m' < m ∧ W (i + 1) m' σ' H') ∧ ∀ x H', (Ite1 K a).yld i H x H' → g x σ H' fun σ2 H2 => tb { D with nx := N, ct := N, bk := D.nx } σ2 H2) := by
  refine ⟨fun i m σ H => m = xs.length - i ∧ i ≤ xs.length ∧ Pv i σ H, ⟨xs.length, by simp, Nat.zero_le _, h0⟩, ?_⟩
  rintro i m σ H ⟨rfl, hi, p⟩
  have q := hl i σ H hi p
  by_cases hlt : i < xs.length
  · refine .inr ⟨⟨xs, xs[i], q, by simp [hlt]⟩, Pv (i + 1), fun σ' H' p' => ⟨xs.length - (i + 1), by omega, rfl, hlt, p'⟩, fun x H' y => ?_⟩
    obtain ⟨T, x, e1, e2, e3, y⟩ := y
    subst e1 e3
    exact hs i x σ _ T (y xs q) p e2
  · have e : i = xs.length := by omega
    subst e
    exact .inl ⟨⟨xs, q, Nat.le_refl _⟩, hd σ H p⟩

theorem range_sumN (f : Nat → Int) : ∀ n : Nat, ((List.range n).map f).sum = sumN n f
  | 0 => rfl
  | n + 1 => by rw [List.range_succ, List.map_append, List.sum_append, range_sumN f n]; simp [sumN]
section
variable {scope : Scope} {cl : List (Str × Addr)} {env : Env} {prog : Program} {w : World} {xa xb : Str}
theorem el_sub {C : Int → Int → Prop} {p p1 p2 : Pos} (hk : scope.kind = .function) (ha : scope.names.lookup xa = some .local) (hb : scope.names.lookup xb = some .local) (hda : (xa == ("__debug__" : Str)) = false) (hdb : (xb == ("__debug__" : Str)) = false) :
    El2 scope cl env prog w xa xb (.BinOp (.Name xa p1) .Sub (.Name xb p2) p) C fun x y => x - y := by
  intro A' E' L code x y tx ty t m₂ hn h1 h2 hc
  refine wpAny_BinOp (wpAny_Name (wpAny_loadName_local hk ha hn h1 (wpAny_Name (wpAny_loadName_local hk hb hn h2 (sub_int ⟨⟨_, rfl⟩, keeps_tok _ _⟩)) hdb)) hda)
end
/-- sum(e for a, b in enumerate(xs, start=1)) -/
def tSumEn1 (K : PySem.W.Frag) (f : Int → Int → Int) (ta : TA) : TE := fun σ H Q => ta σ H fun vs H1 => ∃ (a : Addr) (ns : List Int), vs = [.ref a] ∧ SqL K H1 a (ns.map V.int) ∧
  ∀ H', Same H1 H' → Q (.int (sumN ns.length fun i => f ((i + 1 : Nat) : Int) (vl ns i))) H'
theorem pe_sum_enum1 {X : Cx} {k : Nat} {elt e : Expr} {xa xb : Str} {pa pb pt cp kp : Pos} {kt j : Nat} {scope : Scope} {gpos : Pos} {ta : TA} {p p' pos pos' : Pos} {f : Int → Int → Int} (hr : Room k X.A) (ck : CodeK X.prog X.K X.mg X.env.code)
    (hc : X.calm = true) (hg : Gl X "sum") (hm : X.mg "sum" = none) (hg' : Gl X "enumerate") (hm' : X.mg "enumerate" = none) (ha : PA X [e] ta)
    (hel : El2 scope [] X.env X.prog X.w xa xb elt (fun _ _ => True) f)
    (hco : scope.isCoroutine = false) (hfree : ∀ x ∈ scope.names, x.2 ≠ .free) (hcell : ∀ y ∈ scope.names, y.2 ≠ .cell) (h0 : scope.names.lookup (".0" : Str) = some NameKind.local)
    (hxa : scope.names.lookup xa = some .local) (hxb : scope.names.lookup xb = some .local) (hab : xa ≠ xb) (hkind : scope.kind = .function)
    (hs : starEach [e] X.env = [(false, eval e X.env)] := by rfl)
    (hs2 : starEach [.GeneratorExp elt [⟨.Tuple [.Name xa pa, .Name xb pb] kt pt, .Call (.Name "enumerate" p') [e] [⟨some "start", .Constant (.int 1) j cp, kp⟩] pos', [], 0⟩] scope gpos] X.env = [(false, eval (.GeneratorExp elt [⟨.Tuple [.Name xa pa, .Name xb pb] kt pt, .Call (.Name "enumerate" p') [e] [⟨some "start", .Constant (.int 1) j cp, kp⟩] pos', [], 0⟩] scope gpos) X.env)] := by rfl)
    (hfold : ∀ x, genFold (.Call (.Name "enumerate" p') [e] [⟨some "start", .Constant (.int 1) j cp, kp⟩] pos') X.env x = pure x := by intro x; rfl) :
    PE X (.Call (.Name "sum" p) [.GeneratorExp elt [⟨.Tuple [.Name xa pa, .Name xb pb] kt pt, .Call (.Name "enumerate" p') [e] [⟨some "start", .Constant (.int 1) j cp, kp⟩] pos', [], 0⟩] scope gpos] [] pos) (tSumEn1 X.K f ta) := by
  intro pins s σ H Q I h
  refine wpAny_Call_Name_kw (ld_blt I hg hm boot_sum9 (PyProof.Rows.callWith_builtin1 ?_ hs2 rfl))
  rw [hs2]
  show wpAny _ _ (spliced ((false, eval (.GeneratorExp elt [⟨.Tuple [.Name xa pa, .Name xb pb] kt pt, .Call (.Name "enumerate" p') [e] [⟨some "start", .Constant (.int 1) j cp, kp⟩] pos', [], 0⟩] scope gpos) X.env) :: backTo pos (starEach [] X.env))) _ _ s
  refine Calls.spliced_cons (thn (gen_sum (cl := []) (Q := EP X pins σ Q) I hc ck hco (closureFor_none hfree) hcell h0 hxa hxb hab hkind hr.depth ?_ hfold) fun v s5 h5 => Calls.spliced_nil h5)
  refine wpAny_Call_Name_kw (ld_blt I hg' hm' boot_enumerate (callWith_tyK (thn (ha pos' pins s σ H _ I h) fun us s1 ⟨vs, H1, I1, r1, q1⟩ => kws_cons (wpAny_Constant_int (kws_nil ?_))) (by rw [hs]; rfl) (by rw [hs]; rfl) rfl rfl))
  obtain ⟨a, ns, ex, hq, q⟩ := q1
  subst ex
  cases r1 with
  | cons r rr =>
    cases rr
    cases r
    obtain ⟨its, rv, p', hz⟩ := I1.list hq
    have hal : a < s1.heap.objs.size := by obtain ⟨_, z, _⟩ := p'.isList; exact Heap.lt_size z
    have el : its.length = ns.length := by have := rv.length; rw [List.length_map] at this; omega
    refine call_enum1 (s := { s1 with toks := _ }) p'.isList fun h' he hit hsz hk => ?_
    have n1 : a ≠ s1.heap.objs.size := Nat.ne_of_lt hal
    have n2 : a ≠ s1.heap.objs.size + 1 := Nat.ne_of_lt (Nat.lt_succ_of_lt hal)
    have W := fun (A' : Around) (hA : A'.handled = none) => WalksU.shift (WalksT.toU (WalksT.enumerateD (prog := X.prog) (w := X.w) (draws1 (A := A'.in1) hA s1.heap.objs.size a n1 its.toArray) (s1.heap.objs.size + 1) (Nat.succ_ne_self _) (by simp [Ne.symm n2]) (by simp)))
    have hL := p'.isList.at (h' := h') fun o z => hk a o z
    have hst : (∃ old, IsEnum h' (s1.heap.objs.size + 1) s1.heap.objs.size ((0 + 1 : Nat) : Int) old) ∧ ∃ i, 0 + 1 = i + 1 ∧ h'.IsListIter s1.heap.objs.size a i ∧ h'.IsList a its.toArray := ⟨⟨.none, he⟩, 0, rfl, hit, hL⟩
    have I2 : Inv X pins σ H1 { s1 with heap := h', toks := s1.toks + 1 } := I1.kept (t' := s1.toks + 1) hk
    refine (W X.A (I1.ok.hd hc)).self 0 _ _ _ hst ?_
    have hints : ∀ (i : Nat) (x : Value), its[i]? = some x → ∃ t, x = .int (vl ns i) t := fun i x hx => by
      have hil : i < ns.length := by rw [← el]; exact (List.getElem?_eq_some_iff.mp hx).1
      obtain ⟨u, hu, t, e⟩ := rv.get (x := .int (vl ns i)) (i := i) (by rw [List.getElem?_map, List.getElem?_eq_getElem hil]; simp [vl, hil])
      rw [hx] at hu
      cases hu
      exact ⟨t, e⟩
    refine ⟨H1, _, _, _, _, _, _, _, fun _ => true, fun i => f ((i + 1 : Nat) : Int) (vl ns i), I2, rfl, W, (fun i vals hv => by obtain ⟨t, x, _, z⟩ := hv; exact ⟨_, x, z⟩), hst, fun c hb => ?_, fun c hb => ?_, fun L code A' E' i va vb t s₃ H₃ m₂ I₃ sm hA hD hU hP hn h1 h2 hk' => ⟨?_, fun _ => ?_⟩, fun H' s' tk I' sm' => ?_⟩
    · obtain ⟨o1, g1, c1, _⟩ := hit
      obtain ⟨o3, g3, c3, _⟩ := hL
      rcases (by simpa using hb : c = s1.heap.objs.size + 1 ∨ c = s1.heap.objs.size ∨ c = a) with z | z | z
      · rw [z]; exact ⟨_, he, by simp⟩
      · rw [z]; exact ⟨_, g1, by rw [c1]; simp⟩
      · rw [z]; exact ⟨_, g3, by rw [c3]; simp⟩
    · have hge : s1.heap.objs.size ≤ c := by
        rcases (by simpa using hb : c = s1.heap.objs.size + 1 ∨ c = s1.heap.objs.size) with z | z
        · rw [z]; exact Nat.le_add_right _ _
        · rw [z]; exact Nat.le_refl _
      exact I1.fpOk hge (I1.hok.fresh hge)
    · exact wpAny_pure ⟨rfl, keeps_refl _⟩
    · obtain ⟨tx, x, hx, ev⟩ := hP
      have hx : its.toArray[i + 1 - 1]? = some x := hx
      rw [List.getElem?_toArray, Nat.add_sub_cancel] at hx
      obtain ⟨ea, eb⟩ : va = .int ((i + 1 : Nat) : Int) tx ∧ vb = x := by simpa using congrArg Array.toList ev
      subst ea eb
      obtain ⟨ty, rfl⟩ := hints i _ hx
      exact hel A' E' L code _ _ tx ty t m₂ hn h1 h2 trivial
    · refine ⟨.int _, H', I', ⟨tk, rfl⟩, ?_⟩
      rw [passing_all, List.size_toArray, el, range_sumN]
      exact q H' sm'
end L2

set_option Elab.async false
set_option linter.all false
set_option maxRecDepth 100000
set_option maxHeartbeats 4000000
namespace L2
open PySem
/-- [f(k) for k in range(lo, lo + n)]: a new list -/
theorem lc_rngI {lo : Int} {n : Nat} {f : Nat → Int} {te : TE} {i : Nat} {vs : List Nat} {σ : St} {H : Hp} {D : Addr} {Qd : Hp → Prop} (hD : H D = none) (hlen : n ≤ 1000)
    (hw : ∀ v, wipe ((wipe σ vs).set i (some v)) vs = wipe σ vs)
    (ht : ∀ (j : Nat) (H' : Hp) (R : VK), j < n → R (.int (f j)) H' → te ((wipe σ vs).set i (some (.int (lo + j)))) H' R)
    (hd : Qd (upd H D (.lst (((List.range n).map f).map V.int)))) :
    ∃ W : Nat → Nat → Hp → Prop, (∃ m, W 0 m (upd H D (.lst []))) ∧ ∀ j m H, W j m H →
      ((Itr lo n).stop j H ∧ Qd H) ∨ ((Itr lo n).go j H ∧ ∃ Nx : Hp → Prop, (∀ H', Nx H' → ∃ m', m' < m ∧ W (j + 1) m' H') ∧ ∀ x H', (Itr lo n).yld j H x H' → gName i x (wipe σ vs) H' fun σ2 H2 => wipe σ2 vs = wipe σ vs ∧ tYes σ2 H2 fun b H3 =>
        if b = true then te σ2 H3 fun y H4 => ∃ acc, H4 D = some (.lst acc) ∧ acc.length < sizeLine ∧ Nx (upd H4 D (.lst (acc ++ [y]))) else Nx H3) := by
  refine lc_range (lo := lo) (n := n) (fun k H' => H' = upd H D (.lst (((List.range k).map f).map V.int))) rfl ?_ ?_
  · rintro k H' hk rfl
    refine ⟨hw _, ?_⟩
    show te ((wipe σ vs).set i (some (.int (lo + k)))) _ _
    refine ht k _ _ hk ⟨_, upd_same, ?_, ?_⟩
    · rw [List.length_map, List.length_map, List.length_range]
      exact small1000 (by omega)
    · rw [updupd, List.range_succ, List.map_append, List.map_append]
      rfl
  · rintro H' rfl
    exact hd
end L2

set_option Elab.async false
set_option linter.all false
set_option maxRecDepth 100000
set_option maxHeartbeats 4000000
namespace Law
open PySem L2
def top (i : Nat) : Stmt := PySem.Challenge.pw_stretchleast_k34_spreads_and_worths_plan.main.body.getD i (.Pass ⟨0, 0, 0, 0⟩)
abbrev bls : List Str := ["list", "enumerate", "int", "sum", "sorted", "range", "len", "min", "max", "isinstance", "bool", "repr", "zip", "set", "tuple", "dict", "reversed", "divmod", "str", "all", "abs"]
def spWhole : Sp := fun vs H Q _ => ∃ i : Int, vs = [.int i] ∧ Q (.bl true) H
def spIsSt (K : PySem.W.Frag) : Sp := fun vs H Q _ => ∃ (a : Addr) (ns : List Int) (b e : Int), vs = [.ref a, .int b, .int e] ∧ SqL K H a (ns.map V.int) ∧ IsSt ns.length b e ∧ Q (.bl true) H
def spNums (K : PySem.W.Frag) : Sp := fun vs H Q _ => ∃ (a : Addr) (ns : List Int) (b e : Int), vs = [.ref a, .int b, .int e] ∧ SqL K H a (ns.map V.int) ∧ IsSt ns.length b e ∧ ∀ p, H p = none → Q (.ref p) (upd H p (.lst ((seg ns b e).map V.int)))
def spSeg (K : PySem.W.Frag) (g : List Int → Int → Int) : Sp := fun vs H Q _ => ∃ (a : Addr) (ns : List Int) (b e : Int), vs = [.ref a, .int b, .int e] ∧ SqL K H a (ns.map V.int) ∧ IsSt ns.length b e ∧ ∀ H', Same H H' → Q (.int (g (seg ns b e) b)) H'
abbrev gLeast : List Int → Int → Int := fun l _ => minL l
abbrev gSpread : List Int → Int → Int := fun l _ => maxL l - minL l
section
variable {P : Program} {w : World} {K : PySem.W.Frag} {mg : Str → Option Value} {base : Heap}
def xis_whole : { t : Stmt // top 4 = t } := ⟨_, by conv => { lhs; whnf }⟩
abbrev sis_whole : Stmt := xis_whole.1
theorem scis_whole : FnScope ["thing"] ["thing"] (defScope sis_whole) := ⟨rfl, rfl, rfl, by decide +kernel, rfl, by decide +kernel, by decide +kernel⟩
theorem fn_is_whole (B : Bl mg bls) (D : DefAt K mg "is_whole" sis_whole ["thing"]) : Fn P w K mg base 1 "is_whole" ["thing"] spWhole := by
  refine D.fn scis_whole (fun vs H Q E h => ?_) (fun f cdv A outer s H vs Q E hr h => ?_)
  · obtain ⟨i, rfl, _⟩ := h; rfl
  · obtain ⟨i, rfl, q⟩ := h
    refine' ⟨_, ?tm, ?rd⟩
    (case tm =>
      (conv => { arg 2; whnf })
      refine' pss_one ?s0
      (case s0 =>
        exact (ps_ret (pe_and (pe_callB call_isinst (by rfl) (B "isinstance" (by decide +kernel)) (by decide +kernel) (pa_cons (pv 0) (pa_cons (pe_bltn (v := .ty "int") (by rfl) (B "int" (by decide +kernel)) (by decide +kernel) rfl) pa_nil))) (pe_one (pe_not (pe_callB call_isinst (by rfl) (B "isinstance" (by decide +kernel)) (by decide +kernel) (pa_cons (pv 0) (pa_cons (pe_bltn (v := .ty "bool") (by rfl) (B "bool" (by decide +kernel)) (by decide +kernel) rfl) pa_nil)))))))))
    refine ⟨_, rfl, _, _, _, true, rfl, TyOf.int i, (by rfl), _, rfl, ?_⟩
    refine ⟨_, rfl, _, _, _, false, rfl, TyOf.int i, (by rfl), _, rfl, q⟩
def xis_stretch : { t : Stmt // top 5 = t } := ⟨_, by conv => { lhs; whnf }⟩
abbrev sis_stretch : Stmt := xis_stretch.1
theorem scis_stretch : FnScope ["row", "begin", "end"] ["row", "begin", "end"] (defScope sis_stretch) := ⟨rfl, rfl, rfl, by decide +kernel, rfl, by decide +kernel, by decide +kernel⟩
theorem fn_is_stretch (B : Bl mg bls) (D : DefAt K mg "is_stretch" sis_stretch ["row", "begin", "end"]) (Fis_whole : Fn P w K mg base 1 "is_whole" ["thing"] spWhole) : Fn P w K mg base 2 "is_stretch" ["row", "begin", "end"] (spIsSt K) := by
  refine D.fn scis_stretch (fun vs H Q E h => ?_) (fun f cdv A outer s H vs Q E hr h => ?_)
  · obtain ⟨a, ns, b, e, rfl, _⟩ := h; rfl
  · obtain ⟨a, ns, b, e, rfl, hs, ⟨h1, h2, h3⟩, q⟩ := h
    refine' ⟨_, ?tm, ?rd⟩
    (case tm =>
      (conv => { arg 2; whnf })
      refine' pss_cons ?s0 ?r0
      (case s0 =>
        refine' ps_if ?c0 ?a0 ?b0
        (case c0 => exact (PW.pt (pw_or (pt_not (pt_val (pe_fn Fis_whole hr (by rfl) (pa_cons (pv 1) pa_nil)))) (pw_or1 (pt_not (pt_val (pe_fn Fis_whole hr (by rfl) (pa_cons (pv 2) pa_nil))))))))
        (case a0 =>
          refine' pss_one ?s0i
          (case s0i =>
            exact (ps_ret pe_bl)))
        (case b0 =>
          exact pss_nil))
      (case r0 =>
        refine' pss_one ?s0x
        (case s0x =>
          exact (ps_ret (pe_chain3 op_le op_lt op_le pe_int (pv 1) (pv 2) (pe_callB call_len_seq (by rfl) (B "len" (by decide +kernel)) (by decide +kernel) (pa_cons (pv 0) pa_nil)))))))
    refine ⟨_, rfl, b, rfl, _, rfl, ?_⟩
    refine ⟨_, rfl, e, rfl, _, rfl, ?_⟩
    refine ⟨_, rfl, _, _, rfl, rfl, _, rfl, ?_⟩
    refine ite2 (fun _ => ?_) (fun z => absurd (decide_eq_true h1) z)
    refine ⟨_, rfl, _, _, rfl, rfl, _, rfl, ?_⟩
    refine ite2 (fun _ => ?_) (fun z => absurd (decide_eq_true h2) z)
    refine ⟨_, rfl, a, _, rfl, .inl hs, _, _, rfl, rfl, ?_⟩
    have e3 : decide (e ≤ (((ns.map V.int).length : Nat) : Int)) = true := decide_eq_true (by rw [List.length_map]; exact h3)
    show Q (.bl (decide (e ≤ (((ns.map V.int).length : Nat) : Int)))) H
    rw [e3]
    exact q
def xnumbers_of : { t : Stmt // top 6 = t } := ⟨_, by conv => { lhs; whnf }⟩
abbrev snumbers_of : Stmt := xnumbers_of.1
theorem scnumbers_of : FnScope ["row", "begin", "end"] ["row", "begin", "end"] (defScope snumbers_of) := ⟨rfl, rfl, rfl, by decide +kernel, rfl, by decide +kernel, by decide +kernel⟩
theorem fn_numbers_of (B : Bl mg bls) (D : DefAt K mg "numbers_of" snumbers_of ["row", "begin", "end"]) (Fis_stretch : Fn P w K mg base 2 "is_stretch" ["row", "begin", "end"] (spIsSt K)) : Fn P w K mg base 3 "numbers_of" ["row", "begin", "end"] (spNums K) := by
  refine D.fn scnumbers_of (fun vs H Q E h => ?_) (fun f cdv A outer s H vs Q E hr h => ?_)
  · obtain ⟨a, ns, b, e, rfl, _⟩ := h; rfl
  · obtain ⟨a, ns, b, e, rfl, hs, hst, q⟩ := h
    refine' ⟨_, ?tm, ?rd⟩
    (case tm =>
      (conv => { arg 2; whnf })
      refine' pss_cons ?s0 ?r0
      (case s0 =>
        refine' ps_if ?c0 ?a0 ?b0
        (case c0 => exact (pt_not (pt_val (pe_fn Fis_stretch hr (by rfl) (pa_cons (pv 0) (pa_cons (pv 1) (pa_cons (pv 2) pa_nil)))))))
        (case a0 =>
          refine' pss_one ?s0i
          (case s0i =>
            exact ps_never))
        (case b0 =>
          exact pss_nil))
      (case r0 =>
        refine' pss_one ?s0x
        (case s0x =>
          exact (ps_ret (pe_slice sl_list (pv 0) (po_some (pv 1)) (po_some (pv 2)))))))
    refine ⟨_, rfl, _, rfl, _, rfl, a, ns, b, e, rfl, hs, hst, _, rfl, ?_⟩
    refine ⟨_, rfl, _, rfl, _, rfl, _, rfl, _, rfl, a, _, rfl, hs, fun p hp => ?_⟩
    rw [cut_ints, seg_cut hst]
    exact q p hp
def xleast_of : { t : Stmt // top 7 = t } := ⟨_, by conv => { lhs; whnf }⟩
abbrev sleast_of : Stmt := xleast_of.1
theorem scleast_of : FnScope ["row", "begin", "end"] ["row", "begin", "end"] (defScope sleast_of) := ⟨rfl, rfl, rfl, by decide +kernel, rfl, by decide +kernel, by decide +kernel⟩
theorem fn_least_of (B : Bl mg bls) (D : DefAt K mg "least_of" sleast_of ["row", "begin", "end"]) (Fnumbers_of : Fn P w K mg base 3 "numbers_of" ["row", "begin", "end"] (spNums K)) : Fn P w K mg base 4 "least_of" ["row", "begin", "end"] (spSeg K gLeast) := by
  refine D.fn scleast_of (fun vs H Q E h => ?_) (fun f cdv A outer s H vs Q E hr h => ?_)
  · obtain ⟨a, ns, b, e, rfl, _⟩ := h; rfl
  · obtain ⟨a, ns, b, e, rfl, hs, hst, q⟩ := h
    refine' ⟨_, ?tm, ?rd⟩
    (case tm =>
      (conv => { arg 2; whnf })
      refine' pss_one ?s0
      (case s0 =>
        exact (ps_ret (pe_callB (cr_min rfl) (by rfl) (B "min" (by decide +kernel)) (by decide +kernel) (pa_cons (pe_fn Fnumbers_of hr (by rfl) (pa_cons (pv 0) (pa_cons (pv 1) (pa_cons (pv 2) pa_nil)))) pa_nil)))))
    refine ⟨_, rfl, _, rfl, _, rfl, a, ns, b, e, rfl, hs, hst, fun p hp => ?_⟩
    refine ⟨p, seg ns b e, rfl, SqL.of upd_same, List.length_pos_iff.mpr (seg_ne hst), fun m h1 h2 => ?_⟩
    rw [← minL_uniq h1 h2]
    exact q _ (Same.new hp)
end

section
variable {P : Program} {w : World} {K : PySem.W.Frag} {mg : Str → Option Value} {base : Heap}
def xspread_of : { t : Stmt // top 8 = t } := ⟨_, by conv => { lhs; whnf }⟩
abbrev sspread_of : Stmt := xspread_of.1
theorem scspread_of : FnScope ["row", "begin", "end", "numbers"] ["row", "begin", "end"] (defScope sspread_of) := ⟨rfl, rfl, rfl, by decide +kernel, rfl, by decide +kernel, by decide +kernel⟩
theorem fn_spread_of (B : Bl mg bls) (D : DefAt K mg "spread_of" sspread_of ["row", "begin", "end"]) (Fnumbers_of : Fn P w K mg base 3 "numbers_of" ["row", "begin", "end"] (spNums K)) : Fn P w K mg base 4 "spread_of" ["row", "begin", "end"] (spSeg K gSpread) := by
  refine D.fn scspread_of (fun vs H Q E h => ?_) (fun f cdv A outer s H vs Q E hr h => ?_)
  · obtain ⟨a, ns, b, e, rfl, _⟩ := h; rfl
  · obtain ⟨a, ns, b, e, rfl, hs, hst, q⟩ := h
    refine' ⟨_, ?tm, ?rd⟩
    (case tm =>
      (conv => { arg 2; whnf })
      refine' pss_cons ?s0 ?r0
      (case s0 =>
        exact (ps_set (i := 3) scspread_of.nd (by rfl) (by first | exact Or.inl rfl | exact Or.inr rfl) (pe_fn Fnumbers_of hr (by rfl) (pa_cons (pv 0) (pa_cons (pv 1) (pa_cons (pv 2) pa_nil))))))
      (case r0 =>
        refine' pss_one ?s0x
        (case s0x =>
          exact (ps_ret (pe_op op_sub (pe_callB (cr_max rfl) (by rfl) (B "max" (by decide +kernel)) (by decide +kernel) (pa_cons (pv 3) pa_nil)) (pe_callB (cr_min rfl) (by rfl) (B "min" (by decide +kernel)) (by decide +kernel) (pa_cons (pv 3) pa_nil)))))))
    refine ⟨_, rfl, _, rfl, _, rfl, a, ns, b, e, rfl, hs, hst, fun p hp => ?_⟩
    have hpos := List.length_pos_iff.mpr (seg_ne hst)
    refine ⟨_, rfl, p, seg ns b e, rfl, SqL.of upd_same, hpos, fun m h1 h2 => ?_⟩
    refine ⟨_, rfl, p, seg ns b e, rfl, SqL.of upd_same, hpos, fun m' h1' h2' => ⟨_, _, rfl, rfl, ?_⟩⟩
    rw [← maxL_uniq h1 h2, ← minL_uniq h1' h2']
    exact q _ (Same.new hp)
end

abbrev spr (ns : List Int) (b e : Nat) : Int := maxL (seg ns (b : Int) (e : Int)) - minL (seg ns (b : Int) (e : Int))
theorem spr_mono {ns : List Int} {b b' e e' : Nat} (h1 : b' ≤ b) (h2 : b < e) (h3 : e ≤ e') (h4 : e' ≤ ns.length) : spr ns b e ≤ spr ns b' e' := by
  have n1 := segN_ne h2 (Nat.le_trans h3 h4)
  have n2 : seg ns (b' : Int) (e' : Int) ≠ [] := segN_ne (by omega) h4
  have sub : ∀ x ∈ seg ns (b : Int) (e : Int), x ∈ seg ns (b' : Int) (e' : Int) := fun x hx => by
    obtain ⟨k, k1, k2, kx⟩ := (mem_segN (by omega)).mp hx
    exact (mem_segN h4).mpr ⟨k, by omega, by omega, kx⟩
  have m1 := (minL_spec n2).2 _ (sub _ (minL_spec n1).1)
  have m2 := (maxL_spec n2).2 _ (sub _ (maxL_spec n1).1)
  show maxL _ - minL _ ≤ maxL _ - minL _
  omega
/-- B is the least begin of a stretch to e with a spread of at most m -/
structure IsWide (ns : List Int) (m : Int) (e B : Nat) : Prop where
  le : B ≤ e
  out : ∀ b, b < B → m < spr ns b e
  inn : ∀ b, B ≤ b → b < e → spr ns b e ≤ m
abbrev gW (m : Int) : List Int → Int := fun s => if maxL s - minL s ≤ m then 1 else 0
def cntW (ns : List Int) (m : Int) : Int := sumSt ns (gW m)
theorem cntW_wide {ns : List Int} {m : Int} {bs : List Int} (h : ∀ i, i < ns.length → ∃ B : Nat, vl bs i = B ∧ IsWide ns m (i + 1) B) : (sumN ns.length fun i => ((i + 1 : Nat) : Int) - vl bs i) = cntW ns m := by
  unfold cntW
  rw [sumSt_F2, sumN_comm]
  refine sumN_congr fun e he => ?_
  obtain ⟨B, eB, wB⟩ := h e he
  rw [eB, ← sumN_between (n := ns.length) wB.le (by omega)]
  refine sumN_congr fun b hb => ?_
  unfold F2
  by_cases hbe : b ≤ e
  · rw [if_pos hbe]
    by_cases hB : B ≤ b
    · rw [if_pos ⟨hB, by omega⟩]
      have : maxL (seg ns (b : Int) ((e + 1 : Nat) : Int)) - minL (seg ns (b : Int) ((e + 1 : Nat) : Int)) ≤ m := wB.inn b hB (by omega)
      exact Eq.symm (if_pos (c := maxL (seg ns (b : Int) ((e + 1 : Nat) : Int)) - minL (seg ns (b : Int) ((e + 1 : Nat) : Int)) ≤ m) this)
    · rw [if_neg fun z => hB z.1]
      have : m < maxL (seg ns (b : Int) ((e + 1 : Nat) : Int)) - minL (seg ns (b : Int) ((e + 1 : Nat) : Int)) := wB.out b (by omega)
      exact Eq.symm (if_neg (c := maxL (seg ns (b : Int) ((e + 1 : Nat) : Int)) - minL (seg ns (b : Int) ((e + 1 : Nat) : Int)) ≤ m) (by omega))
  · rw [if_neg hbe, if_neg (by omega)]
def WB (ns : List Int) (m : Int) (bs : List Int) : Prop := bs.length = ns.length ∧ ∀ i, i < ns.length → ∃ B : Nat, vl bs i = B ∧ IsWide ns m (i + 1) B
def spWB (K : PySem.W.Frag) : Sp := fun vs H Q _ => ∃ (a : Addr) (ns : List Int) (m : Int), vs = [.ref a, .int m] ∧ SqL K H a (ns.map V.int) ∧ ns.length ≤ 300 ∧ ∀ (p : Addr) (H' : Hp) (bs : List Int), Same H H' → H p = none → H' p = some (.lst (bs.map V.int)) → WB ns m bs → Q (.ref p) H'
def spWithin (K : PySem.W.Frag) : Sp := fun vs H Q _ => ∃ (a : Addr) (ns : List Int) (m : Int), vs = [.ref a, .int m] ∧ SqL K H a (ns.map V.int) ∧ ns.length ≤ 300 ∧ ∀ H', Same H H' → Q (.int (cntW ns m)) H'
section
variable {P : Program} {w : World} {K : PySem.W.Frag} {mg : Str → Option Value} {base : Heap}
def xwidest_begins : { t : Stmt // top 10 = t } := ⟨_, by conv => { lhs; whnf }⟩
abbrev swidest_begins : Stmt := xwidest_begins.1
theorem scwidest_begins : FnScope ["row", "spread", "begins", "begin", "end"] ["row", "spread"] (defScope swidest_begins) := ⟨rfl, rfl, rfl, by decide +kernel, rfl, by decide +kernel, by decide +kernel⟩
theorem fn_widest_begins (B : Bl mg bls) (D : DefAt K mg "widest_begins" swidest_begins ["row", "spread"]) (Fspread_of : Fn P w K mg base 4 "spread_of" ["row", "begin", "end"] (spSeg K gSpread)) : Fn P w K mg base 5 "widest_begins" ["row", "spread"] (spWB K) := by
  refine D.fn scwidest_begins (fun vs H Q E h => ?_) (fun f cdv A outer s H vs Q E hr h => ?_)
  · obtain ⟨a, ns, m, rfl, _⟩ := h; rfl
  · obtain ⟨a, ns, m, rfl, hs, hl, q⟩ := h
    refine' ⟨_, ?tm, ?rd⟩
    (case tm =>
      (conv => { arg 2; whnf })
      refine' pss_cons ?s0 ?r0
      (case s0 =>
        exact (ps_set (i := 2) scwidest_begins.nd (by rfl) (by first | exact Or.inl rfl | exact Or.inr rfl) (pe_lst pa_nil)))
      (case r0 =>
        refine' pss_cons ?s0x ?r0x
        (case s0x =>
          exact (ps_set (i := 3) scwidest_begins.nd (by rfl) (by first | exact Or.inl rfl | exact Or.inr rfl) pe_int))
        (case r0x =>
          refine' pss_cons ?s0xx ?r0xx
          (case s0xx =>
            refine' ps_for PassesOwn.never (by rfl) ?i0xx ?g0xx ?d0xx
            (case i0xx => exact (pi_range2 (by rfl) (B "range" (by decide +kernel)) (pa_cons pe_int (pa_cons (pe_op op_add (pe_callB call_len_seq (by rfl) (B "len" (by decide +kernel)) (by decide +kernel) (pa_cons (pv 0) pa_nil)) pe_int) pa_nil))))
            (case g0xx => exact (pg_name (i := 4) scwidest_begins.nd (by rfl) (by first | exact Or.inl rfl | exact Or.inr rfl)))
            (case d0xx =>
              refine' pss_cons ?s0xxf ?r0xxf
              (case s0xxf =>
                refine' ps_while PassesOwn.never ?c0xxf ?d0xxf
                (case c0xxf => exact (PW.pt (pw_and (pt_cmpR op_lt (pv 3) (pv 4) (nomark _)) (pw_and1 (pt_cmpR op_gt (pe_fn Fspread_of hr (by rfl) (pa_cons (pv 0) (pa_cons (pv 3) (pa_cons (pv 4) pa_nil)))) (pv 1) (nomark _))))))
                (case d0xxf =>
                  refine' pss_one ?s0xxfw
                  (case s0xxfw =>
                    exact (ps_aug (i := 3) scwidest_begins.nd (by rfl) (by first | exact Or.inl rfl | exact Or.inr rfl) pe_int ip_add))))
              (case r0xxf =>
                refine' pss_one ?s0xxfx
                (case s0xxfx =>
                  exact (ps_expr (pe_bm PySem.F.plainAttrs_list PySem.F.slot_list_append PySem.F.type_list_append mt_append (pv 2) (pa_cons (pv 3) pa_nil)))))))
          (case r0xx =>
            refine' pss_one ?s0xxx
            (case s0xxx =>
              exact (ps_ret (pv 2)))))))
    refine ⟨(by show 0 ≤ sizeLine; decide), fun p hp => ?_⟩
    have s1 := Same.new (o := .lst []) hp
    have c1 : upd H p (.lst []) p = some (.lst (([] : List Int).map V.int)) := upd_same
    generalize upd H p (.lst []) = H1 at s1 c1 ⊢
    refine ⟨_, rfl, a, _, rfl, .inl (s1.seq hs), ?_⟩
    refine ⟨_, _, rfl, rfl, _, _, rfl, ⟨by decide, by decide, by rw [List.length_map]; omega, by rw [List.length_map]; omega⟩, ?_⟩
    have en : ((((ns.map V.int).length : Nat) : Int) + 1 - 1).toNat = ns.length := by rw [List.length_map]; omega
    rw [en]
    refine for_range (lo := 1) (n := ns.length) (fun j σ H' => ∃ (bs : List Int) (Bg : Nat) (v4 : Option V), σ = [some (.ref a), some (.int m), some (.ref p), some (.int (Bg : Int)), v4] ∧ H' p = some (.lst (bs.map V.int)) ∧ bs.length = j ∧ (∀ i, i < j → ∃ B : Nat, vl bs i = B ∧ IsWide ns m (i + 1) B) ∧ Bg ≤ j ∧ (∀ b, b < Bg → m < spr ns b j) ∧ Same H H') ⟨[], 0, _, rfl, c1, rfl, (fun i hi => absurd hi (Nat.not_lt_zero _)), Nat.le_refl _, (fun b hb => absurd hb (Nat.not_lt_zero _)), s1⟩ ?_ ?_
    · rintro j σ H2 hj ⟨bs, Bg, v4, rfl, c2, bl, hw, hB, ho, s2⟩
      dsimp only [gName]
      refine seqJ (fun σ' H' => ∃ Bg : Nat, σ' = [some (.ref a), some (.int m), some (.ref p), some (.int (Bg : Int)), some (.int (1 + (j : Nat)))] ∧ H' p = some (.lst (bs.map V.int)) ∧ IsWide ns m (j + 1) Bg ∧ Same H H') (fun fin => ?_) ?_
      · refine ⟨fun mm σ' H' => ∃ Bg : Nat, mm = j + 1 - Bg ∧ σ' = [some (.ref a), some (.int m), some (.ref p), some (.int (Bg : Int)), some (.int (1 + (j : Nat)))] ∧ H' p = some (.lst (bs.map V.int)) ∧ Bg ≤ j + 1 ∧ (∀ b, b < Bg → m < spr ns b (j + 1)) ∧ Same H H', ⟨_, Bg, rfl, rfl, c2, by omega, fun b hb => Int.lt_of_lt_of_le (ho b hb) (spr_mono (Nat.le_refl _) (by omega) (Nat.le_succ _) (by omega)), s2⟩, ?_⟩
        rintro mm σ' H3 ⟨Bg, rfl, rfl, c3, hB3, ho3, s3⟩
        refine ⟨_, rfl, _, rfl, _, _, rfl, rfl, _, rfl, ?_⟩
        refine ite2 (fun z => ?_) (fun z => ?_)
        · have z' : (Bg : Int) < 1 + (j : Nat) := of_decide_eq_true z
          refine ⟨_, rfl, _, rfl, _, rfl, a, ns, _, _, rfl, s3.seq hs, ⟨by omega, z', by omega⟩, fun H4 s4 => ?_⟩
          refine ⟨_, rfl, _, _, rfl, rfl, _, rfl, ?_⟩
          have es : gSpread (seg ns (Bg : Int) (1 + (j : Nat))) (Bg : Int) = spr ns Bg (j + 1) := by
            show maxL (seg ns (Bg : Int) (1 + (j : Nat))) - minL (seg ns (Bg : Int) (1 + (j : Nat))) = _
            rw [show (1 + (j : Nat) : Int) = ((j + 1 : Nat) : Int) by omega]
          rw [es]
          refine ite2 (fun y => ?_) (fun y => ?_)
          · have y' : m < spr ns Bg (j + 1) := of_decide_eq_true y
            refine ⟨_, fun σ' H' (z : ∃ Bg' : Nat, j + 1 - (Bg + 1) = j + 1 - Bg' ∧ _) => ⟨j + 1 - (Bg + 1), by omega, z⟩, ?_⟩
            refine ⟨_, rfl, _, _, rfl, rfl, ?_⟩
            refine ⟨Bg + 1, rfl, rfl, s4 _ _ c3, by omega, fun b hb => ?_, s3.trans s4⟩
            rcases Nat.lt_or_ge b Bg with u | u
            · exact ho3 b u
            · rw [show b = Bg by omega]; exact y'
          · have y' : ¬ m < spr ns Bg (j + 1) := fun q1 => y (decide_eq_true q1)
            exact fin _ _ ⟨Bg, rfl, s4 _ _ c3, ⟨hB3, ho3, fun b h1 h2 => Int.le_trans (spr_mono h1 h2 (Nat.le_refl _) (by omega)) (by omega)⟩, s3.trans s4⟩
        · have z' : ¬ (Bg : Int) < 1 + (j : Nat) := fun q1 => z (decide_eq_true q1)
          exact fin _ _ ⟨Bg, rfl, c3, ⟨hB3, ho3, fun b h1 h2 => by omega⟩, s3⟩
      · rintro σ' H3 ⟨Bg', rfl, c3, wd, s3⟩
        refine ⟨_, rfl, .inl ⟨rfl, _, SqL.of c3⟩, _, rfl, p, _, _, rfl, rfl, c3, ?_, ?_⟩
        · rw [List.length_map]; exact small1000 (by omega)
        refine ⟨bs ++ [(Bg' : Int)], Bg', _, rfl, ?_, by rw [List.length_append, bl]; rfl, fun i hi => ?_, wd.le, wd.out, s3.at hp⟩
        · rw [upd_same, List.map_append]; rfl
        · rcases Nat.lt_or_ge i j with u | u
          · obtain ⟨B, e1, e2⟩ := hw i u
            refine ⟨B, ?_, e2⟩
            rw [← e1]
            unfold vl
            rw [List.getD_eq_getElem?_getD, List.getD_eq_getElem?_getD, List.getElem?_append_left (by omega)]
          · have : i = j := by omega
            subst this
            refine ⟨Bg', ?_, wd⟩
            unfold vl
            rw [List.getD_eq_getElem?_getD, List.getElem?_append_right (by omega), bl, Nat.sub_self]
            rfl
    · rintro σ H2 ⟨bs, Bg, v4, rfl, c2, bl, hw, hB, ho, s2⟩
      exact ⟨_, rfl, q p H2 bs s2 hp c2 ⟨bl, hw⟩⟩
end

section
variable {P : Program} {w : World} {K : PySem.W.Frag} {mg : Str → Option Value} {base : Heap}
def xmany_within : { t : Stmt // top 11 = t } := ⟨_, by conv => { lhs; whnf }⟩
abbrev smany_within : Stmt := xmany_within.1
theorem scmany_within : FnScope ["row", "spread"] ["row", "spread"] (defScope smany_within) := ⟨rfl, rfl, rfl, by decide +kernel, rfl, by decide +kernel, by decide +kernel⟩
theorem fn_many_within (B : Bl mg bls) (D : DefG P K mg "many_within" smany_within ["row", "spread"]) (Fwidest_begins : Fn P w K mg base 5 "widest_begins" ["row", "spread"] (spWB K)) : Fn P w K mg base 6 "many_within" ["row", "spread"] (spWithin K) := by
  refine D.fn scmany_within (fun vs H Q E h => ?_) (fun f cdv A outer s H vs Q E ck hr h => ?_)
  · obtain ⟨a, ns, m, rfl, _⟩ := h; rfl
  · obtain ⟨a, ns, m, rfl, hs, hl, q⟩ := h
    refine' ⟨_, ?tm, ?rd⟩
    (case tm =>
      (conv => { arg 2; whnf })
      refine' pss_one ?s0
      (case s0 =>
        exact (ps_ret (pe_sum_enum1 hr ck (by rfl) (by rfl) (B "sum" (by decide +kernel)) (by rfl) (B "enumerate" (by decide +kernel)) (pa_cons (pe_fn Fwidest_begins hr (by rfl) (pa_cons (pv 0) (pa_cons (pv 1) pa_nil))) pa_nil) (el_sub rfl rfl rfl (by decide) (by decide)) rfl (by decide) (by decide) rfl rfl rfl (by decide) rfl))))
    refine ⟨_, rfl, _, rfl, a, ns, m, rfl, hs, hl, fun p H1 bs s1 fp c1 wb => ?_⟩
    refine ⟨p, bs, rfl, SqL.of c1, fun H2 s2 => ?_⟩
    rw [wb.1, cntW_wide wb.2]
    exact q H2 (s1.trans s2)
end

structure IsLong (ns : List Int) (m : Int) (n b e : Nat) : Prop where
  be : b < e
  en : e ≤ n
  le : spr ns b e ≤ m
  top : ∀ b' e', b' < e' → e' ≤ n → spr ns b' e' ≤ m → e' - b' < e - b ∨ (e' - b' = e - b ∧ b ≤ b')
theorem IsLong.uniq {ns : List Int} {m : Int} {n b e b' e' : Nat} (h : IsLong ns m n b e) (k : IsLong ns m n b' e') : b = b' ∧ e = e' := by
  have h1 := h.be; have h2 := k.be
  have t1 := h.top b' e' k.be k.en k.le
  have t2 := k.top b e h.be h.en h.le
  omega
def NoLong (ns : List Int) (m : Int) (n : Nat) : Prop := ∀ b e, b < e → e ≤ n → m < spr ns b e
theorem NoLong.step {ns : List Int} {m : Int} {n : Nat} (h : NoLong ns m n) (w : IsWide ns m (n + 1) (n + 1)) : NoLong ns m (n + 1) := fun b e h1 h2 => by
  rcases Nat.lt_or_ge e (n + 1) with z | z
  · exact h b e h1 (by omega)
  · rw [show e = n + 1 by omega]; exact w.out b (by omega)
theorem IsLong.first {ns : List Int} {m : Int} {n B : Nat} (h : NoLong ns m n) (w : IsWide ns m (n + 1) B) (hB : B < n + 1) : IsLong ns m (n + 1) B (n + 1) :=
  ⟨hB, Nat.le_refl _, w.inn B (Nat.le_refl _) hB, fun b' e' h1 h2 h3 => by
    rcases Nat.lt_or_ge e' (n + 1) with z | z
    · have := h b' e' h1 (by omega); omega
    · have e0 : e' = n + 1 := by omega
      subst e0
      rcases Nat.lt_or_ge b' B with y | y
      · have := w.out b' y; omega
      · omega⟩
theorem IsLong.more {ns : List Int} {m : Int} {n b e B : Nat} (h : IsLong ns m n b e) (w : IsWide ns m (n + 1) B) (hB : e - b < n + 1 - B) : IsLong ns m (n + 1) B (n + 1) :=
  ⟨by have := h.be; omega, Nat.le_refl _, w.inn B (Nat.le_refl _) (by have := h.be; omega), fun b' e' h1 h2 h3 => by
    rcases Nat.lt_or_ge e' (n + 1) with z | z
    · have := h.top b' e' h1 (by omega) h3; omega
    · have e0 : e' = n + 1 := by omega
      subst e0
      rcases Nat.lt_or_ge b' B with y | y
      · have := w.out b' y; omega
      · omega⟩
theorem IsLong.stay {ns : List Int} {m : Int} {n b e B : Nat} (h : IsLong ns m n b e) (w : IsWide ns m (n + 1) B) (hB : ¬ e - b < n + 1 - B) : IsLong ns m (n + 1) b e :=
  ⟨h.be, by have := h.en; omega, h.le, fun b' e' h1 h2 h3 => by
    rcases Nat.lt_or_ge e' (n + 1) with z | z
    · exact h.top b' e' h1 (by omega) h3
    · have e0 : e' = n + 1 := by omega
      subst e0
      have h4 := h.be; have h5 := h.en
      rcases Nat.lt_or_ge b' B with y | y
      · have := w.out b' y; omega
      · omega⟩
def spLongest (K : PySem.W.Frag) : Sp := fun vs H Q _ => ∃ (a : Addr) (ns : List Int) (m : Int), vs = [.ref a, .int m] ∧ SqL K H a (ns.map V.int) ∧ ns.length ≤ 300 ∧ (NoLong ns m ns.length → ∀ H', Same H H' → Q .non H') ∧
  ∀ (t : Addr) (H' : Hp) (b e : Nat), Same H H' → H t = none → H' t = some (.tup [.int (b : Int), .int (e : Int)]) → IsLong ns m ns.length b e → Q (.ref t) H'
section
variable {P : Program} {w : World} {K : PySem.W.Frag} {mg : Str → Option Value} {base : Heap}
def xlongest_within : { t : Stmt // top 12 = t } := ⟨_, by conv => { lhs; whnf }⟩
abbrev slongest_within : Stmt := xlongest_within.1
theorem sclongest_within : FnScope ["row", "spread", "longest", "length", "end", "begin"] ["row", "spread"] (defScope slongest_within) := ⟨rfl, rfl, rfl, by decide +kernel, rfl, by decide +kernel, by decide +kernel⟩
theorem fn_longest_within (B : Bl mg bls) (D : DefAt K mg "longest_within" slongest_within ["row", "spread"]) (Fwidest_begins : Fn P w K mg base 5 "widest_begins" ["row", "spread"] (spWB K)) : Fn P w K mg base 6 "longest_within" ["row", "spread"] (spLongest K) := by
  refine D.fn sclongest_within (fun vs H Q E h => ?_) (fun f cdv A outer s H vs Q E hr h => ?_)
  · obtain ⟨a, ns, m, rfl, _⟩ := h; rfl
  · obtain ⟨a, ns, m, rfl, hs, hl, q0, q⟩ := h
    refine' ⟨_, ?tm, ?rd⟩
    (case tm =>
      (conv => { arg 2; whnf })
      refine' pss_cons ?s0 ?r0
      (case s0 =>
        exact (ps_set (i := 2) sclongest_within.nd (by rfl) (by first | exact Or.inl rfl | exact Or.inr rfl) pe_non))
      (case r0 =>
        refine' pss_cons ?s0x ?r0x
        (case s0x =>
          exact (ps_set (i := 3) sclongest_within.nd (by rfl) (by first | exact Or.inl rfl | exact Or.inr rfl) pe_int))
        (case r0x =>
          refine' pss_cons ?s0xx ?r0xx
          (case s0xx =>
            refine' ps_for PassesOwn.never (by rfl) ?i0xx ?g0xx ?d0xx
            (case i0xx => exact (pi_enum1 (by rfl) (B "enumerate" (by decide +kernel)) (pa_cons (pe_fn Fwidest_begins hr (by rfl) (pa_cons (pv 0) (pa_cons (pv 1) pa_nil))) pa_nil)))
            (case g0xx => exact (pg_tup (by rfl) (pgs_cons (pg_name (i := 4) sclongest_within.nd (by rfl) (by first | exact Or.inl rfl | exact Or.inr rfl)) (pgs_cons (pg_name (i := 5) sclongest_within.nd (by rfl) (by first | exact Or.inl rfl | exact Or.inr rfl)) pgs_nil))))
            (case d0xx =>
              refine' pss_one ?s0xxf
              (case s0xxf =>
                refine' ps_if ?c0xxf ?a0xxf ?b0xxf
                (case c0xxf => exact (pt_cmpR op_gt (pe_op op_sub (pv 4) (pv 5)) (pv 3) (nomark _)))
                (case a0xxf =>
                  refine' pss_cons ?s0xxfi ?r0xxfi
                  (case s0xxfi =>
                    exact (ps_set (i := 2) sclongest_within.nd (by rfl) (by first | exact Or.inl rfl | exact Or.inr rfl) (pe_tup (pa_cons (pv 5) (pa_cons (pv 4) pa_nil)))))
                  (case r0xxfi =>
                    refine' pss_one ?s0xxfix
                    (case s0xxfix =>
                      exact (ps_set (i := 3) sclongest_within.nd (by rfl) (by first | exact Or.inl rfl | exact Or.inr rfl) (pe_op op_sub (pv 4) (pv 5))))))
                (case b0xxf =>
                  exact pss_nil))))
          (case r0xx =>
            refine' pss_one ?s0xxx
            (case s0xxx =>
              exact (ps_ret (pv 2)))))))
    refine ⟨_, rfl, _, rfl, a, ns, m, rfl, hs, hl, fun p H1 bs s1 fp c1 wb => ?_⟩
    refine ⟨p, _, rfl, SqL.of c1, ?_⟩
    refine for_enum1 (K := K) (a := p) (xs := bs.map V.int) (fun i σ H' => ∃ (lv : V) (L : Nat) (v4 v5 : Option V), σ = [some (.ref a), some (.int m), some lv, some (.int (L : Int)), v4, v5] ∧ Same H1 H' ∧ ((lv = .non ∧ L = 0 ∧ NoLong ns m i) ∨ ∃ (t : Addr) (b e : Nat), lv = .ref t ∧ L = e - b ∧ H t = none ∧ H' t = some (.tup [.int (b : Int), .int (e : Int)]) ∧ IsLong ns m i b e)) ⟨_, 0, _, _, rfl, Same.refl _, .inl ⟨rfl, rfl, fun b e h1 h2 => by omega⟩⟩ (fun i σ H' _ ⟨_, _, _, _, _, k, _⟩ => SqL.of (k _ _ c1)) ?_ ?_
    · rintro i x σ H2 T hx ⟨lv, L, v4, v5, rfl, k2, hlv⟩ hT
      obtain ⟨n, hn, rfl⟩ := get_ints hx
      have hi : i < ns.length := by rw [← wb.1]; exact (List.getElem?_eq_some_iff.mp hn).1
      obtain ⟨Bg, eB, wd⟩ := wb.2 i hi
      have en := get_vl hn
      rw [eB] at en
      subst en
      have sT := Same.new (o := .tup [.int ((i + 1 : Nat) : Int), .int (Bg : Int)]) hT
      refine ⟨T, _, rfl, SqT.of upd_same, rfl, _, _, rfl, _, _, rfl, rfl, ?_⟩
      generalize upd H2 T (.tup [.int ((i + 1 : Nat) : Int), .int (Bg : Int)]) = H3 at sT ⊢
      have k3 := k2.trans sT
      dsimp only [gName]
      refine ⟨_, rfl, _, rfl, _, _, rfl, rfl, _, rfl, _, _, rfl, rfl, _, rfl, ?_⟩
      have hle := wd.le
      refine ite2 (fun z => ?_) (fun z => ?_)
      · have z' : (L : Int) < ((i + 1 : Nat) : Int) - (Bg : Int) := of_decide_eq_true z
        refine ⟨_, rfl, _, rfl, (by show 2 ≤ sizeLine; decide), fun t ht => ?_⟩
        have s4 := Same.new (o := .tup [.int (Bg : Int), .int ((i + 1 : Nat) : Int)]) ht
        refine ⟨_, rfl, _, rfl, _, _, rfl, rfl, ?_⟩
        have eL' : V.int (((i + 1 : Nat) : Int) - (Bg : Int)) = V.int ((i + 1 - Bg : Nat) : Int) := congrArg V.int (by omega)
        refine ⟨.ref t, i + 1 - Bg, some (.int ((i + 1 : Nat) : Int)), some (.int (Bg : Int)), ?_, k3.trans s4, .inr ⟨t, Bg, i + 1, rfl, rfl, (s1.trans k3).free ht, upd_same, ?_⟩⟩
        · exact congrArg (fun v => [some (V.ref a), some (.int m), some (.ref t), some v, some (.int ((i + 1 : Nat) : Int)), some (.int (Bg : Int))]) eL'
        · rcases hlv with ⟨_, e0, hno⟩ | ⟨t', b, e, _, eL, _, _, hlg⟩
          · exact IsLong.first hno wd (by omega)
          · exact hlg.more wd (by omega)
      · have z' : ¬ (L : Int) < ((i + 1 : Nat) : Int) - (Bg : Int) := fun y => z (decide_eq_true y)
        refine ⟨lv, L, _, _, rfl, k3, ?_⟩
        rcases hlv with ⟨e1, e0, hno⟩ | ⟨t', b, e, e1, eL, f1, ct, hlg⟩
        · refine .inl ⟨e1, e0, hno.step ?_⟩
          have : Bg = i + 1 := by omega
          rw [this] at wd
          exact wd
        · exact .inr ⟨t', b, e, e1, eL, f1, sT _ _ ct, hlg.stay wd (by omega)⟩
    · rintro σ H2 ⟨lv, L, v4, v5, rfl, k2, hlv⟩
      rw [List.length_map, wb.1] at hlv
      rcases hlv with ⟨rfl, _, hno⟩ | ⟨t', b, e, rfl, _, f1, ct, hlg⟩
      · exact ⟨_, rfl, q0 hno H2 (s1.trans k2)⟩
      · exact ⟨_, rfl, q t' H2 b e (s1.trans k2) f1 ct hlg⟩
end

def spWorth (K : PySem.W.Frag) : Sp := fun vs H Q _ => ∃ (a : Addr) (ns : List Int) (b e : Int), vs = [.ref a, .int b, .int e] ∧ SqL K H a (ns.map V.int) ∧ IsSt ns.length b e ∧ ns.length ≤ 300 ∧ ∀ H', Same H H' → Q (.int (minL (seg ns b e) * (e - b))) H'
section
variable {P : Program} {w : World} {K : PySem.W.Frag} {mg : Str → Option Value} {base : Heap}
def xworth_of : { t : Stmt // top 16 = t } := ⟨_, by conv => { lhs; whnf }⟩
abbrev sworth_of : Stmt := xworth_of.1
theorem scworth_of : FnScope ["row", "begin", "end"] ["row", "begin", "end"] (defScope sworth_of) := ⟨rfl, rfl, rfl, by decide +kernel, rfl, by decide +kernel, by decide +kernel⟩
theorem fn_worth_of (B : Bl mg bls) (D : DefAt K mg "worth_of" sworth_of ["row", "begin", "end"]) (Fleast_of : Fn P w K mg base 4 "least_of" ["row", "begin", "end"] (spSeg K gLeast)) : Fn P w K mg base 5 "worth_of" ["row", "begin", "end"] (spWorth K) := by
  refine D.fn scworth_of (fun vs H Q E h => ?_) (fun f cdv A outer s H vs Q E hr h => ?_)
  · obtain ⟨a, ns, b, e, rfl, _⟩ := h; rfl
  · obtain ⟨a, ns, b, e, rfl, hs, hst, hl, q⟩ := h
    have h0 := hst.b0; have h1 := hst.be; have h2 := hst.en
    refine' ⟨_, ?tm, ?rd⟩
    (case tm =>
      (conv => { arg 2; whnf })
      refine' pss_one ?s0
      (case s0 =>
        exact (ps_ret (pe_op op_mul (pe_fn Fleast_of hr (by rfl) (pa_cons (pv 0) (pa_cons (pv 1) (pa_cons (pv 2) pa_nil)))) (pe_op op_sub (pv 2) (pv 1))))))
    refine ⟨_, rfl, _, rfl, _, rfl, a, ns, b, e, rfl, hs, hst, fun H1 s1 => ?_⟩
    exact ⟨_, rfl, _, rfl, _, _, rfl, rfl, _, _, rfl, rfl, .inr ⟨by omega, by omega⟩, q _ s1⟩
end


def spRG (K : PySem.W.Frag) (g : Int → Int) : Sp := fun vs H Q _ => ∃ (a : Addr) (ns : List Int), vs = [.ref a] ∧ SqL K H a (ns.map V.int) ∧ ns.length ≤ 300 ∧ ∀ (l : Addr) (H' : Hp) (ts : List Addr) (ps : List (Int × Int)), Same H H' → H l = none → H' l = some (.lst (ts.map V.ref)) → PrAt H' ts ps → AreReaches (ns.map g) ps → Q (.ref l) H'
abbrev spReaches (K : PySem.W.Frag) : Sp := spRG K (fun n => n)
section
variable {P : Program} {w : World} {K : PySem.W.Frag} {mg : Str → Option Value} {base : Heap}
def xreaches : { t : Stmt // top 14 = t } := ⟨_, by conv => { lhs; whnf }⟩
abbrev sreaches : Stmt := xreaches.1
theorem screaches : FnScope ["row", "begins", "ends", "waiting", "place", "number"] ["row"] (defScope sreaches) := ⟨rfl, rfl, rfl, by decide +kernel, rfl, by decide +kernel, by decide +kernel⟩
theorem fn_reaches (B : Bl mg bls) (D : DefAt K mg "reaches" sreaches ["row"]) : Fn P w K mg base 1 "reaches" ["row"] (spReaches K) := by
  refine D.fn screaches (fun vs H Q E h => ?_) (fun f cdv A outer s H vs Q E hr h => ?_)
  · obtain ⟨a, ns, rfl, _⟩ := h; rfl
  · obtain ⟨a, ns, rfl, hs, hl, q⟩ := h
    refine' ⟨_, ?tm, ?rd⟩
    (case tm =>
      (conv => { arg 2; whnf })
      refine' pss_cons ?s0 ?r0
      (case s0 =>
        exact (ps_set (i := 1) screaches.nd (by rfl) (by first | exact Or.inl rfl | exact Or.inr rfl) (pe_lst pa_nil)))
      (case r0 =>
        refine' pss_cons ?s0x ?r0x
        (case s0x =>
          exact (ps_set (i := 2) screaches.nd (by rfl) (by first | exact Or.inl rfl | exact Or.inr rfl) (pe_op op_rep (pe_lst (pa_cons (pe_callB call_len_seq (by rfl) (B "len" (by decide +kernel)) (by decide +kernel) (pa_cons (pv 0) pa_nil)) pa_nil)) (pe_callB call_len_seq (by rfl) (B "len" (by decide +kernel)) (by decide +kernel) (pa_cons (pv 0) pa_nil)))))
        (case r0x =>
          refine' pss_cons ?s0xx ?r0xx
          (case s0xx =>
            exact (ps_set (i := 3) screaches.nd (by rfl) (by first | exact Or.inl rfl | exact Or.inr rfl) (pe_lst pa_nil)))
          (case r0xx =>
            refine' pss_cons ?s0xxx ?r0xxx
            (case s0xxx =>
              refine' ps_for PassesOwn.never (by rfl) ?i0xxx ?g0xxx ?d0xxx
              (case i0xxx => exact (pi_enum (by rfl) (B "enumerate" (by decide +kernel)) (pa_cons (pv 0) pa_nil)))
              (case g0xxx => exact (pg_tup (by rfl) (pgs_cons (pg_name (i := 4) screaches.nd (by rfl) (by first | exact Or.inl rfl | exact Or.inr rfl)) (pgs_cons (pg_name (i := 5) screaches.nd (by rfl) (by first | exact Or.inl rfl | exact Or.inr rfl)) pgs_nil))))
              (case d0xxx =>
                refine' pss_cons ?s0xxxf ?r0xxxf
                (case s0xxxf =>
                  refine' ps_while PassesOwn.never ?c0xxxf ?d0xxxf
                  (case c0xxxf => exact (PW.pt (pw_and (pt_truth (pv 3) (by intro _; rfl)) (pw_and1 (pt_cmpR op_gt (pe_ix ix_list (pv 0) (pe_ix ix_list (pv 3) (pe_un un_neg pe_int) (fun _ _ => rfl)) (fun _ _ => rfl)) (pv 5) (nomark _))))))
                  (case d0xxxf =>
                    refine' pss_one ?s0xxxfw
                    (case s0xxxfw =>
                      exact (ps_asg (pv 4) (pg_sub (pv 2) (pe_bm0 PySem.F.plainAttrs_list PySem.F.slot_list_pop PySem.F.type_list_pop mt_pop (pv 3)) set_list)))))
                (case r0xxxf =>
                  refine' pss_cons ?s0xxxfx ?r0xxxfx
                  (case s0xxxfx =>
                    exact (ps_expr (pe_bm PySem.F.plainAttrs_list PySem.F.slot_list_append PySem.F.type_list_append mt_append (pv 1) (pa_cons (pe_ifExp (pt_truth (pv 3) (by intro _; rfl)) (pe_op op_add (pe_ix ix_list (pv 3) (pe_un un_neg pe_int) (fun _ _ => rfl)) pe_int) pe_int) pa_nil))))
                  (case r0xxxfx =>
                    refine' pss_one ?s0xxxfxx
                    (case s0xxxfxx =>
                      exact (ps_expr (pe_bm PySem.F.plainAttrs_list PySem.F.slot_list_append PySem.F.type_list_append mt_append (pv 3) (pa_cons (pv 4) pa_nil))))))))
            (case r0xxx =>
              refine' pss_one ?s0xxxx
              (case s0xxxx =>
                exact (ps_ret (pe_list_zip (by rfl) (by rfl) (B "list" (by decide +kernel)) (by rfl) (B "zip" (by decide +kernel)) (pa_cons (pv 1) (pa_cons (pv 2) pa_nil))))))))))
    refine ⟨(by show 0 ≤ sizeLine; decide), fun pb hpb => ?_⟩
    have s1 := Same.new (o := .lst []) hpb
    have cb1 : upd H pb (.lst []) pb = some (.lst (([] : List Nat).map nV)) := upd_same
    generalize upd H pb (.lst []) = H1 at s1 cb1 ⊢
    refine ⟨_, rfl, a, _, rfl, .inl (s1.seq hs), (by show 1 ≤ sizeLine; decide), fun q1 hq1 => ?_⟩
    have s2 := Same.new (o := .lst [.int ((ns.map V.int).length : Nat)]) hq1
    refine ⟨_, rfl, a, _, rfl, .inl ((s1.trans s2).seq hs), q1, _, _, rfl, rfl, upd_same, by rw [List.length_map]; omega, by rw [List.length_map]; omega, ?_, fun pe hpe => ?_⟩
    · refine line1000 ?_
      show 1 * _ ≤ 1000
      rw [List.length_map]; omega
    have eE : (List.replicate ((((ns.map V.int).length : Nat) : Int)).toNat [V.int ((ns.map V.int).length : Nat)]).flatten = (List.replicate ns.length ns.length).map nV := by
      rw [flat_one, List.map_replicate, List.length_map, Int.toNat_natCast]
    rw [eE]
    have s3 := Same.new (o := .lst ((List.replicate ns.length ns.length).map nV)) hpe
    have ce3 : upd (upd H1 q1 (.lst [.int ((ns.map V.int).length : Nat)])) pe (.lst ((List.replicate ns.length ns.length).map nV)) pe = some (.lst ((List.replicate ns.length ns.length).map nV)) := upd_same
    have s23 := s2.trans s3
    generalize upd (upd H1 q1 (.lst [.int ((ns.map V.int).length : Nat)])) pe (.lst ((List.replicate ns.length ns.length).map nV)) = H3 at s23 ce3 ⊢
    have fpe : H pe = none := (s1.trans s2).free hpe
    have nbe : pb ≠ pe := ne_of_none (s2 _ _ cb1) hpe
    refine ⟨(by show 0 ≤ sizeLine; decide), fun pw hpw => ?_⟩
    have s4 := Same.new (o := .lst []) hpw
    have fpw : H pw = none := (s1.trans s23).free hpw
    have nbw : pb ≠ pw := ne_of_none (s23 _ _ cb1) hpw
    have new : pe ≠ pw := ne_of_none ce3 hpw
    have cw4 : upd H3 pw (.lst []) pw = some (.lst (([] : List Nat).map nV)) := upd_same
    generalize upd H3 pw (.lst []) = H4 at s4 cw4 ⊢
    have k4 := s1.trans (s23.trans s4)
    refine ⟨_, rfl, a, _, rfl, k4.seq hs, for_enum (K := K) (a := a) (xs := ns.map V.int) (fun m σ H' => ∃ (bs ws es : List Nat) (v4 v5 : Option V), σ = [some (.ref a), some (.ref pb), some (.ref pe), some (.ref pw), v4, v5] ∧ H' pb = some (.lst (bs.map nV)) ∧ H' pe = some (.lst (es.map nV)) ∧ H' pw = some (.lst (ws.map nV)) ∧ bs.length = m ∧ ws.length ≤ m ∧ Begs ns bs ∧ Stk ns m m ws es ∧ Same H H')
      ⟨[], [], List.replicate ns.length ns.length, none, none, rfl, (s23.trans s4) _ _ cb1, s4 _ _ ce3, cw4, rfl, Nat.le_refl _, (fun i b hb => by simp at hb), Stk.start ns, k4⟩ (fun m σ H' _ ⟨_, _, _, _, _, _, _, _, _, _, _, _, _, k⟩ => k.seq hs) ?_ ?_⟩
    · rintro m x σ H5 T hx ⟨bs, ws, es, v4, v5, rfl, cb, ce, cw, bl, wl, hB, hS, k5⟩ hT
      obtain ⟨n, hn, rfl⟩ := get_ints hx
      have hm : m < ns.length := (List.getElem?_eq_some_iff.mp hn).1
      have en := get_vl hn
      subst en
      have sT := Same.new (o := .tup [.int (m : Nat), .int (vl ns m)]) hT
      refine ⟨T, _, rfl, SqT.of upd_same, rfl, _, _, rfl, _, _, rfl, rfl, ?_⟩
      generalize upd H5 T (.tup [.int (m : Nat), .int (vl ns m)]) = H6 at sT ⊢
      have k6 := k5.trans sT
      have cb6 := sT _ _ cb
      dsimp only [gName]
      refine seqJ (fun σ' H' => ∃ ws es : List Nat, σ' = [some (.ref a), some (.ref pb), some (.ref pe), some (.ref pw), some (.int (m : Nat)), some (.int (vl ns m))] ∧ H' pb = some (.lst (bs.map nV)) ∧ H' pe = some (.lst (es.map nV)) ∧ H' pw = some (.lst (ws.map nV)) ∧ ws.length ≤ m ∧ Stk ns m (m + 1) ws es ∧ Same H H' ∧ ∀ w, ws.getLast? = some w → vl ns w ≤ vl ns m) (fun fin => ?_) ?_
      · refine ⟨fun mm σ' H' => ∃ ws es : List Nat, mm = ws.length ∧ σ' = [some (.ref a), some (.ref pb), some (.ref pe), some (.ref pw), some (.int (m : Nat)), some (.int (vl ns m))] ∧ H' pb = some (.lst (bs.map nV)) ∧ H' pe = some (.lst (es.map nV)) ∧ H' pw = some (.lst (ws.map nV)) ∧ ws.length ≤ m ∧ Stk ns m (m + 1) ws es ∧ Same H H',
          ⟨_, ws, es, rfl, rfl, cb6, sT _ _ ce, sT _ _ cw, wl, hS.mono (Nat.le_succ _), k6⟩, ?_⟩
        rintro mm σ' H7 ⟨ws, es, rfl, rfl, cb7, ce7, cw7, wl7, hS7, k7⟩
        refine ⟨_, rfl, _, .inl ⟨_, SqL.of cw7, rfl⟩, ?_⟩
        rcases List.eq_nil_or_concat ws with rfl | ⟨us, wt, rfl⟩
        · exact fin _ _ ⟨[], es, rfl, cb7, ce7, cw7, wl7, hS7, k7, (fun w hw => by simp at hw)⟩
        · rw [List.concat_eq_append] at *
          have hwm := hS7.lt wt (by simp)
          have eW : (us ++ [wt]).map nV = us.map nV ++ [nV wt] := by rw [List.map_append]; rfl
          have eI : ((us ++ [wt]).map nV).isEmpty = false := by rw [eW]; simp
          rw [eI]
          refine ⟨_, rfl, _, rfl, _, rfl, pw, _, _, nV wt, rfl, rfl, SqL.of cw7, by rw [eW]; exact atI_last _ _, a, _, _, _, rfl, rfl, k7.seq hs, at_vl (i := wt) (by omega), _, rfl, _, _, rfl, rfl, _, rfl, ?_⟩
          refine ite2 (fun z => ?_) (fun z => ?_)
          · have z' : vl ns m < vl ns wt := of_decide_eq_true z
            refine ⟨_, fun σ' H' (z : ∃ ws es : List Nat, us.length = ws.length ∧ σ' = [some (.ref a), some (.ref pb), some (.ref pe), some (.ref pw), some (.int (m : Nat)), some (.int (vl ns m))] ∧ H' pb = some (.lst (bs.map nV)) ∧ H' pe = some (.lst (es.map nV)) ∧ H' pw = some (.lst (ws.map nV)) ∧ ws.length ≤ m ∧ Stk ns m (m + 1) ws es ∧ Same H H') => ⟨us.length, by simp, z⟩, ?_⟩
            refine ⟨_, rfl, _, rfl, _, rfl, .inl ⟨rfl, _, SqL.of cw7⟩, pw, _, nV wt, rfl, rfl, cw7, ?_, pe, es.map nV, _, wt, rfl, rfl, ?_, ?_, ?_⟩
            · rw [eW]; simp
            · rw [upd_ne new]; exact ce7
            · rw [List.length_map, hS7.lenE]
              exact ix_nat (i := (wt : Int)) (by omega) (by omega) |>.trans (by simp)
            · refine ⟨us, es.set wt m, rfl, rfl, ?_, ?_, ?_, ?_, hS7.pop hm z', ?_⟩
              · rw [upd_ne nbe, upd_ne nbw]; exact cb7
              · rw [upd_same, List.map_set]
              · rw [upd_ne new.symm, upd_same, eW, List.dropLast_concat]
              · rw [List.length_append] at wl7; simp at wl7; omega
              · exact (k7.at fpw).at fpe
          · have z' : ¬ vl ns m < vl ns wt := fun q1 => z (decide_eq_true q1)
            exact fin _ _ ⟨us ++ [wt], es, rfl, cb7, ce7, cw7, wl7, hS7, k7, (fun w hw => by
              have : wt = w := by simpa using hw
              rw [← this]; omega)⟩
      · rintro σ' H7 ⟨ws, es, rfl, cb7, ce7, cw7, wl7, hS7, k7, hv⟩
        have hbg := hS7.beg hm hv
        have fin : ∀ H8 : Hp, H8 = upd H7 pb (.lst (bs.map nV ++ [nV (bgn ws)])) → tDrop (tBM K "list" rAppend (tVar 3) (tCons (tVar 4) tNil)) { nx := fun σ' H' => ∃ (bs ws es : List Nat) (v4 v5 : Option V), σ' = [some (.ref a), some (.ref pb), some (.ref pe), some (.ref pw), v4, v5] ∧ H' pb = some (.lst (bs.map nV)) ∧ H' pe = some (.lst (es.map nV)) ∧ H' pw = some (.lst (ws.map nV)) ∧ bs.length = m + 1 ∧ ws.length ≤ m + 1 ∧ Begs ns bs ∧ Stk ns (m + 1) (m + 1) ws es ∧ Same H H', rt := Q }
            [some (.ref a), some (.ref pb), some (.ref pe), some (.ref pw), some (.int (m : Nat)), some (.int (vl ns m))] H8 := by
          rintro H8 rfl
          have cw8 : upd H7 pb (.lst (bs.map nV ++ [nV (bgn ws)])) pw = some (.lst (ws.map nV)) := by rw [upd_ne nbw.symm]; exact cw7
          refine ⟨_, rfl, .inl ⟨rfl, _, SqL.of cw8⟩, _, rfl, pw, _, _, rfl, rfl, cw8, ?_, ?_⟩
          · rw [List.length_map]; exact small1000 (by omega)
          · refine ⟨bs ++ [bgn ws], ws ++ [m], es, _, _, rfl, ?_, ?_, ?_, by rw [List.length_append, bl]; rfl, by rw [List.length_append]; show ws.length + 1 ≤ m + 1; omega, ?_, hS7.push hm hv, ?_⟩
            · rw [upd_ne nbw, upd_same, List.map_append]; rfl
            · rw [upd_ne new, upd_ne nbe.symm]; exact ce7
            · rw [upd_same, List.map_append]; rfl
            · exact hB.snoc (by rw [bl]; exact hbg)
            · have fpb : H pb = none := hpb
              exact (k7.at fpb).at fpw
        refine ⟨_, rfl, .inl ⟨rfl, _, SqL.of cb7⟩, _, rfl, _, .inl ⟨_, SqL.of cw7, rfl⟩, ?_⟩
        have hbl : (bs.map nV).length < sizeLine := by rw [List.length_map]; exact small1000 (by omega)
        rcases List.eq_nil_or_concat ws with rfl | ⟨us, wt, rfl⟩
        · exact ⟨pb, _, _, rfl, rfl, cb7, hbl, fin _ rfl⟩
        · rw [List.concat_eq_append] at *
          have eW : (us ++ [wt]).map nV = us.map nV ++ [nV wt] := by rw [List.map_append]; rfl
          have eI : ((us ++ [wt]).map nV).isEmpty = false := by rw [eW]; simp
          rw [eI]
          refine ⟨_, rfl, _, rfl, pw, _, _, nV wt, rfl, rfl, SqL.of cw7, by rw [eW]; exact atI_last _ _, _, _, rfl, rfl, pb, _, _, rfl, rfl, cb7, hbl, ?_⟩
          have eb : bgn (us ++ [wt]) = wt + 1 := by unfold bgn; simp
          refine fin _ ?_
          rw [eb]
          rfl
    · rintro σ H5 ⟨bs, ws, es, v4, v5, rfl, cb, ce, cw, bl, wl, hB, hS, k5⟩
      rw [List.length_map] at bl hS
      refine ⟨_, rfl, _, rfl, pb, pe, _, _, rfl, SqL.of cb, SqL.of ce, by rw [List.length_map, List.length_map, bl, hS.lenE], fun H' l ts sm nl cl tl tt => ?_⟩
      refine q l H' ts (List.zipWith (fun (b e : Nat) => ((b : Int), (e : Int))) bs es) (k5.trans sm) (k5.free nl) cl ⟨?_, fun j t p h1 h2 => ?_⟩ (by rw [show (ns.map fun n => n) = ns from by simp]; exact reaches_done hB bl hS)
      · rw [tl, List.length_map, List.length_zipWith, bl, hS.lenE]; simp
      · rw [tt j t h1]
        rw [List.getElem?_zipWith] at h2
        cases e1 : bs[j]? with
        | none => rw [e1] at h2; simp at h2
        | some b =>
          cases e2 : es[j]? with
          | none => rw [e1, e2] at h2; simp at h2
          | some e =>
            rw [e1, e2] at h2
            have hp : ((b : Int), (e : Int)) = p := by simpa using h2
            subst hp
            simp [List.getD_eq_getElem?_getD, List.getElem?_map, e1, e2]
end

def spBestA : Sp := fun vs H Q _ => ∃ (v i : Int) (t : Addr), vs = [.int v, .int i, .ref t] ∧ (0 < v → Q (.ref t) H) ∧ (¬ 0 < v → ∀ T, H T = none → Q (.ref T) (upd H T (.tup [.int i, .int (i + 1)])))
def spMost (K : PySem.W.Frag) : Sp := fun vs H Q _ => ∃ (a : Addr) (ns : List Int), vs = [.ref a] ∧ SqL K H a (ns.map V.int) ∧ ns.length ≤ 300 ∧ (∀ n ∈ ns, -(2 ^ 62) < n ∧ n < 2 ^ 62) ∧ (ns = [] → ∀ H', Same H H' → Q .non H') ∧
  ∀ (t : Addr) (H' : Hp) (W : Int) (b e : Nat), Same H H' → H t = none → H' t = some (.tup [.int W, .int (b : Int), .int (e : Int)]) → IsBest ns W b e → Q (.ref t) H'
theorem candL_map (ns : List Int) (ps : List (Int × Int)) (i : Nat) : (candL ns ps i).map V.int = [V.int (-(vl ns i) * (candE ns ps i - candB ns ps i)), V.int (candB ns ps i), V.int (candE ns ps i)] := rfl
section
variable {P : Program} {w : World} {K : PySem.W.Frag} {mg : Str → Option Value} {base : Heap}
def xbest_around : { t : Stmt // top 17 = t } := ⟨_, by conv => { lhs; whnf }⟩
abbrev sbest_around : Stmt := xbest_around.1
theorem scbest_around : FnScope ["number", "place", "reach"] ["number", "place", "reach"] (defScope sbest_around) := ⟨rfl, rfl, rfl, by decide +kernel, rfl, by decide +kernel, by decide +kernel⟩
theorem fn_best_around (B : Bl mg bls) (D : DefAt K mg "best_around" sbest_around ["number", "place", "reach"]) : Fn P w K mg base 1 "best_around" ["number", "place", "reach"] spBestA := by
  refine D.fn scbest_around (fun vs H Q E h => ?_) (fun f cdv A outer s H vs Q E hr h => ?_)
  · obtain ⟨a, ns, t, rfl, _⟩ := h; rfl
  · obtain ⟨v, i, t, rfl, q1, q2⟩ := h
    refine' ⟨_, ?tm, ?rd⟩
    (case tm =>
      (conv => { arg 2; whnf })
      refine' pss_one ?s0
      (case s0 =>
        exact (ps_ret (pe_ifExp (pt_cmpR op_gt (pv 0) pe_int (nomark _)) (pv 2) (pe_tup (pa_cons (pv 1) (pa_cons (pe_op op_add (pv 1) pe_int) pa_nil)))))))
    refine ⟨_, rfl, _, _, rfl, rfl, _, rfl, ?_⟩
    refine ite2 (fun z => ?_) (fun z => ?_)
    · exact ⟨_, rfl, q1 (of_decide_eq_true z)⟩
    · exact ⟨_, rfl, _, rfl, _, _, rfl, rfl, (by show 2 ≤ sizeLine; decide), fun T hT => q2 (fun y => z (decide_eq_true y)) T hT⟩
def xmost_worth : { t : Stmt // top 18 = t } := ⟨_, by conv => { lhs; whnf }⟩
abbrev smost_worth : Stmt := xmost_worth.1
theorem scmost_worth : FnScope ["row", "found", "place", "reach", "begin", "end", "turned"] ["row"] (defScope smost_worth) := ⟨rfl, rfl, rfl, by decide +kernel, rfl, by decide +kernel, by decide +kernel⟩
theorem fn_most_worth (B : Bl mg bls) (D : DefAt K mg "most_worth" smost_worth ["row"]) (Freaches : Fn P w K mg base 1 "reaches" ["row"] (spReaches K)) (Fbest_around : Fn P w K mg base 1 "best_around" ["number", "place", "reach"] spBestA) : Fn P w K mg base 2 "most_worth" ["row"] (spMost K) := by
  refine D.fn scmost_worth (fun vs H Q E h => ?_) (fun f cdv A outer s H vs Q E hr h => ?_)
  · obtain ⟨a, ns, rfl, _⟩ := h; rfl
  · obtain ⟨a, ns, rfl, hs, hl, hb, q0, q⟩ := h
    refine' ⟨_, ?tm, ?rd⟩
    (case tm =>
      (conv => { arg 2; whnf })
      refine' pss_cons ?s0 ?r0
      (case s0 =>
        exact (ps_set (i := 1) scmost_worth.nd (by rfl) (by first | exact Or.inl rfl | exact Or.inr rfl) (pe_lst pa_nil)))
      (case r0 =>
        refine' pss_cons ?s0x ?r0x
        (case s0x =>
          refine' ps_for PassesOwn.never (by rfl) ?i0x ?g0x ?d0x
          (case i0x => exact (pi_enum (by rfl) (B "enumerate" (by decide +kernel)) (pa_cons (pe_fn Freaches hr (by rfl) (pa_cons (pv 0) pa_nil)) pa_nil)))
          (case g0x => exact (pg_tup (by rfl) (pgs_cons (pg_name (i := 2) scmost_worth.nd (by rfl) (by first | exact Or.inl rfl | exact Or.inr rfl)) (pgs_cons (pg_name (i := 3) scmost_worth.nd (by rfl) (by first | exact Or.inl rfl | exact Or.inr rfl)) pgs_nil))))
          (case d0x =>
            refine' pss_cons ?s0xf ?r0xf
            (case s0xf =>
              exact (ps_asg (pe_fn Fbest_around hr (by rfl) (pa_cons (pe_ix ix_list (pv 0) (pv 2) (fun _ _ => rfl)) (pa_cons (pv 2) (pa_cons (pv 3) pa_nil)))) (pg_tup (by rfl) (pgs_cons (pg_name (i := 4) scmost_worth.nd (by rfl) (by first | exact Or.inl rfl | exact Or.inr rfl)) (pgs_cons (pg_name (i := 5) scmost_worth.nd (by rfl) (by first | exact Or.inl rfl | exact Or.inr rfl)) pgs_nil)))))
            (case r0xf =>
              refine' pss_one ?s0xfx
              (case s0xfx =>
                exact (ps_expr (pe_bm PySem.F.plainAttrs_list PySem.F.slot_list_append PySem.F.type_list_append mt_append (pv 1) (pa_cons (pe_tup (pa_cons (pe_op op_mul (pe_un un_neg (pe_ix ix_list (pv 0) (pv 2) (fun _ _ => rfl))) (pe_op op_sub (pv 5) (pv 4))) (pa_cons (pv 4) (pa_cons (pv 5) pa_nil)))) pa_nil)))))))
        (case r0x =>
          refine' pss_cons ?s0xx ?r0xx
          (case s0xx =>
            refine' ps_if ?c0xx ?a0xx ?b0xx
            (case c0xx => exact (pt_not (pt_truth (pv 1) (by intro _; rfl))))
            (case a0xx =>
              refine' pss_one ?s0xxi
              (case s0xxi =>
                exact (ps_ret pe_non)))
            (case b0xx =>
              exact pss_nil))
          (case r0xx =>
            refine' pss_cons ?s0xxx ?r0xxx
            (case s0xxx =>
              exact (ps_asg (pe_callB (cr_minT rfl hr.units) (by rfl) (B "min" (by decide +kernel)) (by decide +kernel) (pa_cons (pv 1) pa_nil)) (pg_tup (by rfl) (pgs_cons (pg_name (i := 6) scmost_worth.nd (by rfl) (by first | exact Or.inl rfl | exact Or.inr rfl)) (pgs_cons (pg_name (i := 4) scmost_worth.nd (by rfl) (by first | exact Or.inl rfl | exact Or.inr rfl)) (pgs_cons (pg_name (i := 5) scmost_worth.nd (by rfl) (by first | exact Or.inl rfl | exact Or.inr rfl)) pgs_nil))))))
            (case r0xxx =>
              refine' pss_one ?s0xxxx
              (case s0xxxx =>
                exact (ps_ret (pe_tup (pa_cons (pe_un un_neg (pv 6)) (pa_cons (pv 4) (pa_cons (pv 5) pa_nil)))))))))))
    refine ⟨(by show 0 ≤ sizeLine; decide), fun D hD => ?_⟩
    have s0 := Same.new (o := .lst []) hD
    have c0 : upd H D (.lst []) D = some (.lst (([] : List Addr).map V.ref)) := upd_same
    generalize upd H D (.lst []) = H0 at s0 c0 ⊢
    dsimp only [gName]
    refine seqJ (fun σ' H' => ∃ (us : List Addr) (ps : List (Int × Int)) (v2 v3 v4 v5 : Option V), σ' = [some (.ref a), some (.ref D), v2, v3, v4, v5, none] ∧ H' D = some (.lst (us.map V.ref)) ∧ us.length = ns.length ∧ AreReaches ns ps ∧ (∀ (j : Nat) (u : Addr), us[j]? = some u → H' u = some (.tup ((candL ns ps j).map V.int)) ∧ H u = none) ∧ Same H H') (fun fin => ?_) ?_
    · refine ⟨_, rfl, a, ns, rfl, s0.seq hs, hl, fun l H1 ts ps s1 fl cl hP ar => ?_⟩
      rw [show (ns.map fun n => n) = ns from List.map_id' ns] at ar
      have htl : ts.length = ns.length := hP.1.trans ar.1
      have nlD : l ≠ D := fun z => by rw [z, c0] at fl; cases fl
      refine ⟨l, _, rfl, SqL.of cl, for_enum (K := K) (a := l) (xs := ts.map V.ref) (fun m σ H' => ∃ (us : List Addr) (v2 v3 v4 v5 : Option V), σ = [some (.ref a), some (.ref D), v2, v3, v4, v5, none] ∧ H' D = some (.lst (us.map V.ref)) ∧ us.length = m ∧ (∀ (j : Nat) (u : Addr), us[j]? = some u → H' u = some (.tup ((candL ns ps j).map V.int)) ∧ H u = none) ∧ Same H H' ∧ But D H1 H')
        ⟨[], _, _, _, _, rfl, s1 _ _ c0, rfl, (fun j u hu => nomatch hu), s0.trans s1, But.refl _ _⟩ (fun m σ H' _ ⟨_, _, _, _, _, _, _, _, _, _, k⟩ => SqL.of (k _ _ nlD cl)) ?_ ?_⟩
      · rintro m x σ H2 T hx ⟨us, v2, v3, v4, v5, rfl, cD, ul, hus, k2, b2⟩ hT
        obtain ⟨t, ht, rfl⟩ := get_refs hx
        have hm : m < ns.length := by have := (List.getElem?_eq_some_iff.mp ht).1; omega
        obtain ⟨hp, b, e, ep, hre⟩ := reach_at ar hm
        have g1 := hre.bi; have g2 := hre.ie; have g3 := hre.en
        have ct := hP.2 m t _ ht hp
        have ct2 := b2 _ _ (fun z => by rw [z, s1 _ _ c0] at ct; cases ct) ct
        have sT := Same.new (o := .tup [.int (m : Nat), .ref t]) hT
        refine ⟨T, _, rfl, SqT.of upd_same, rfl, _, _, rfl, _, _, rfl, rfl, ?_⟩
        have ct3 := sT _ _ ct2
        have cD3 := sT _ _ cD
        have k3 := k2.trans sT
        have b3 := b2.trans sT.but
        have hus3 : ∀ (j : Nat) (u : Addr), us[j]? = some u → upd H2 T (.tup [.int (m : Nat), .ref t]) u = some (.tup ((candL ns ps j).map V.int)) ∧ H u = none := fun j u hu => ⟨sT _ _ (hus j u hu).1, (hus j u hu).2⟩
        generalize upd H2 T (.tup [.int (m : Nat), .ref t]) = H3 at sT ct3 cD3 k3 b3 hus3 ⊢
        have hat : atI (ns.map V.int) (m : Nat) = some (.int (vl ns m)) := at_vl hm
        have hbm : -(2 ^ 62) < vl ns m ∧ vl ns m < 2 ^ 62 := hb _ (by
          have : vl ns m = ns[m] := by unfold vl; rw [List.getD_eq_getElem?_getD, List.getElem?_eq_getElem hm]; rfl
          rw [this]; exact List.getElem_mem hm)
        dsimp only [gName]
        -- begin, end
        refine seqJ (fun σ' H' => σ' = [some (.ref a), some (.ref D), some (.int (m : Nat)), some (.ref t), some (.int (candB ns ps m)), some (.int (candE ns ps m)), none] ∧ Same H3 H') (fun fin2 => ?_) ?_
        · refine ⟨_, rfl, _, rfl, a, _, _, _, rfl, rfl, k3.seq hs, hat, _, rfl, _, rfl, _, _, t, rfl, fun hv => ?_, fun hv T2 hT2 => ?_⟩
          · refine ⟨t, _, rfl, SqT.of ct3, rfl, _, _, rfl, _, _, rfl, rfl, ?_⟩
            refine fin2 _ _ ⟨?_, Same.refl _⟩
            unfold candB candE
            rw [if_pos hv, if_pos hv]; rfl
          · have sT2 := Same.new (o := .tup [.int (m : Nat), .int ((m : Nat) + 1)]) hT2
            refine ⟨T2, _, rfl, SqT.of upd_same, rfl, _, _, rfl, _, _, rfl, rfl, ?_⟩
            refine fin2 _ _ ⟨?_, sT2⟩
            unfold candB candE
            rw [if_neg hv, if_neg hv]; rfl
        rintro _ H4 ⟨rfl, s4⟩
        have cD4 := s4 _ _ cD3
        have k4 := k3.trans s4
        obtain ⟨cb, ce, ecb, ece, q1, q2, q3, _, _, _⟩ := cand_at ar hm
        refine ⟨_, rfl, .inl ⟨rfl, _, SqL.of cD4⟩, ?_⟩
        refine ⟨_, rfl, _, rfl, a, _, _, _, rfl, rfl, k4.seq hs, hat, _, rfl, _, rfl, _, rfl, _, _, rfl, rfl, _, _, rfl, rfl, .inr ⟨by omega, by omega⟩, ?_⟩
        refine ⟨_, rfl, _, rfl, (by show 3 ≤ sizeLine; decide), fun U hU => ?_⟩
        have sU := Same.new (o := .tup [.int (-(vl ns m) * (candE ns ps m - candB ns ps m)), .int (candB ns ps m), .int (candE ns ps m)]) hU
        have cU : upd H4 U (.tup [.int (-(vl ns m) * (candE ns ps m - candB ns ps m)), .int (candB ns ps m), .int (candE ns ps m)]) U = some (.tup ((candL ns ps m).map V.int)) := upd_same
        have fU := k4.free hU
        generalize upd H4 U (.tup [.int (-(vl ns m) * (candE ns ps m - candB ns ps m)), .int (candB ns ps m), .int (candE ns ps m)]) = H5 at sU cU ⊢
        refine ⟨D, _, _, rfl, rfl, sU _ _ cD4, by rw [List.length_map]; exact small1000 (by omega), us ++ [U], _, _, _, _, rfl, ?_, by rw [List.length_append, ul]; rfl, fun j u hu => ?_, (k4.trans sU).at hD, (b3.trans (s4.trans sU).but).trans (But.upd _)⟩
        · rw [upd_same, List.map_append]; rfl
        · have nD : ∀ {o : List V} {x : Addr}, H5 x = some (.tup o) → x ≠ D := fun h z => by rw [z, sU _ _ cD4] at h; cases h
          rcases Nat.lt_trichotomy j us.length with z | z | z
          · rw [List.getElem?_append_left z] at hu
            have hq := hus3 j u hu
            have c := sU _ _ (s4 _ _ hq.1)
            rw [upd_ne (nD c)]
            exact ⟨c, hq.2⟩
          · rw [z, List.getElem?_append_right (Nat.le_refl _), Nat.sub_self] at hu
            have e1 : U = u := by simpa using hu
            subst e1
            rw [z, ul, upd_ne (nD cU)]
            exact ⟨cU, fU⟩
          · have := (List.getElem?_eq_some_iff.mp hu).1
            rw [List.length_append] at this
            simp at this; omega
      · rintro σ H2 ⟨us, v2, v3, v4, v5, rfl, cD, ul, hus, k2, b2⟩
        exact fin _ _ ⟨us, ps, _, _, _, _, rfl, cD, by rw [ul, List.length_map]; exact htl, ar, hus, k2⟩
    rintro σ1 H1 ⟨us, ps, v2, v3, v4, v5, rfl, cD, ul, ar, hus, k1⟩
    refine seqJ (fun σ' H' => σ' = [some (.ref a), some (.ref D), v2, v3, v4, v5, none] ∧ H' = H1 ∧ ns ≠ []) (fun fin => ?_) ?_
    · refine ⟨_, rfl, _, .inl ⟨_, SqL.of cD, rfl⟩, ?_⟩
      cases us with
      | nil =>
        have : ns = [] := List.length_eq_zero_iff.mp (by rw [← ul]; rfl)
        exact q0 this _ k1
      | cons u r =>
        refine fin _ _ ⟨rfl, rfl, fun z => ?_⟩
        rw [z] at ul; cases ul
    rintro _ H1 ⟨rfl, rfl, hne⟩
    have hpos : 0 < ns.length := List.length_pos_iff.mpr hne
    refine ⟨_, rfl, D, us, (List.range ns.length).map (candL ns ps), rfl, SqL.of cD, ⟨by rw [ul, List.length_map, List.length_range], fun j t xs h1 h2 => ?_⟩, by omega, fun k t xs h1 h2 hmin => ?_⟩
    · have hj : j < ns.length := by rw [← ul]; exact (List.getElem?_eq_some_iff.mp h1).1
      rw [List.getElem?_map, List.getElem?_range hj] at h2
      have e2 : candL ns ps j = xs := by simpa using h2
      rw [← e2]
      exact SqT.of (hus j t h1).1
    have hk : k < ns.length := by rw [← ul]; exact (List.getElem?_eq_some_iff.mp h1).1
    rw [List.getElem?_map, List.getElem?_range hk] at h2
    have e2 : candL ns ps k = xs := by simpa using h2
    subst e2
    obtain ⟨b, e, eb, ee, hbest⟩ := best_of ar hk fun i hi => hmin _ (List.mem_map_of_mem (List.mem_range.mpr hi))
    have ct := (hus k t h1).1
    rw [candL_map, eb, ee] at ct
    refine ⟨t, _, rfl, SqT.of ct, rfl, _, _, rfl, _, _, rfl, _, _, rfl, rfl, ?_⟩
    dsimp only [gName]
    refine ⟨_, rfl, _, rfl, _, rfl, _, rfl, (by show 3 ≤ sizeLine; decide), fun T hT => ?_⟩
    refine q T _ _ b e (k1.trans (Same.new hT)) (k1.free hT) upd_same ?_
    rw [Int.neg_mul, Int.neg_neg]
    exact hbest
end

end Law

set_option Elab.async false
set_option linter.all false
set_option maxRecDepth 100000
set_option maxHeartbeats 4000000
namespace Law
open PySem L2
theorem spr_one {ns : List Int} {b : Nat} (h : b < ns.length) : spr ns b (b + 1) = 0 := by
  show maxL (seg ns (b : Int) ((b + 1 : Nat) : Int)) - minL (seg ns (b : Int) ((b + 1 : Nat) : Int)) = 0
  rw [seg_one h]
  show vl ns b - vl ns b = 0
  omega
/-- the spread of a stretch by its least and its greatest place -/
theorem spr_at {ns : List Int} {b e i j : Nat} (h2 : e ≤ ns.length) (hi : b ≤ i) (hi' : i < e) (hj : b ≤ j) (hj' : j < e) (hmin : ∀ k, b ≤ k → k < e → vl ns i ≤ vl ns k) (hmax : ∀ k, b ≤ k → k < e → vl ns k ≤ vl ns j) : spr ns b e = vl ns j - vl ns i := by
  have m1 : minL (seg ns (b : Int) (e : Int)) = vl ns i := mn_eq hi hi' h2 hmin
  have m2 : maxL (seg ns (b : Int) (e : Int)) = vl ns j := maxL_uniq ((mem_segN h2).mpr ⟨j, hj, hj', rfl⟩) fun y hy => by
    obtain ⟨k, k1, k2, rfl⟩ := (mem_segN h2).mp hy
    exact hmax k k1 k2
  show maxL _ - minL _ = _
  rw [m1, m2]
/-- just the stretches of at most L numbers have so small a spread -/
def Lim (ns : List Int) (s : Int) (L : Nat) : Prop := ∀ b e, b < e → e ≤ ns.length → (spr ns b e ≤ s ↔ e - b ≤ L)
theorem Lim.wide {ns : List Int} {s : Int} {L : Nat} (h : Lim ns s L) {i : Nat} (hi : i < ns.length) : IsWide ns s (i + 1) (i + 1 - L) :=
  ⟨Nat.sub_le _ _, fun b hb => by
    have := h b (i + 1) (by omega) hi
    rcases Int.lt_or_le s (spr ns b (i + 1)) with z | z
    · exact z
    · have := this.mp z; omega, fun b h1 h2 => (h b (i + 1) h2 hi).mpr (by omega)⟩
theorem Lim.cnt {ns : List Int} {s : Int} {L : Nat} (h : Lim ns s L) : cntW ns s = sumN ns.length fun i => ((min (i + 1) L : Nat) : Int) := by
  rw [← cntW_wide (bs := (List.range ns.length).map fun i => ((i + 1 - L : Nat) : Int)) fun i hi => ⟨i + 1 - L, rng_at hi, h.wide hi⟩]
  refine sumN_congr fun i hi => ?_
  rw [rng_at hi]
  omega
theorem Lim.long {ns : List Int} {s : Int} {L : Nat} (h : Lim ns s L) (hn : 0 < ns.length) (hL : 0 < L) : IsLong ns s ns.length 0 (min ns.length L) :=
  ⟨by omega, by omega, (h 0 _ (by omega) (by omega)).mpr (by omega), fun b' e' h1 h2 h3 => by
    have := (h b' e' h1 h2).mp h3
    omega⟩
theorem sum_all (n : Nat) : sumN n (fun i => ((i + 1 : Nat) : Int)) * 2 = (n : Int) * (n + 1) := by
  induction n with
  | zero => rfl
  | succ n ih =>
    show (sumN n (fun i => ((i + 1 : Nat) : Int)) + ((n + 1 : Nat) : Int)) * 2 = _
    rw [Int.add_mul, ih]
    have e1 : ((n + 1 : Nat) : Int) = (n : Int) + 1 := by omega
    have e2 : ((n : Int) + 1) * ((n : Int) + 1 + 1) = (n : Int) * ((n : Int) + 1) + ((n : Int) * 2 + 2) := by
      rw [Int.add_mul (n : Int) 1, Int.mul_add (n : Int) ((n : Int) + 1) 1]; omega
    rw [e1, e2]; omega
theorem Lim.every {ns : List Int} {s : Int} (h : Lim ns s ns.length) : cntW ns s = (ns.length : Int) * (ns.length + 1) / 2 := by
  rw [h.cnt, ← sum_all]
  have : (sumN ns.length fun i => ((min (i + 1) ns.length : Nat) : Int)) = sumN ns.length fun i => ((i + 1 : Nat) : Int) := sumN_congr fun i hi => by rw [Nat.min_eq_left (by omega)]
  rw [this]; omega
theorem Lim.ones {ns : List Int} {s : Int} (h : Lim ns s 1) : cntW ns s = ns.length := by
  rw [h.cnt]
  have : (sumN ns.length fun i => ((min (i + 1) 1 : Nat) : Int)) = sumN ns.length fun _ => 1 := sumN_congr fun i hi => by rw [Nat.min_eq_right (by omega)]; rfl
  rw [this, sumN_const]; omega
theorem steps_sum (L : Nat) : ∀ n, (sumN n fun i => ((min (i + 1) L : Nat) : Int)) = sumN (min n L) fun l => (n : Int) - l
  | 0 => by rw [Nat.zero_min]; rfl
  | n + 1 => by
    show sumN n (fun i => ((min (i + 1) L : Nat) : Int)) + ((min (n + 1) L : Nat) : Int) = _
    rw [steps_sum L n]
    rcases Nat.lt_or_ge n L with z | z
    · rw [Nat.min_eq_left (Nat.le_of_lt z), Nat.min_eq_left (show n + 1 ≤ L from z)]
      have e1 : (sumN (n + 1) fun l => ((n + 1 : Nat) : Int) - l) = (sumN (n + 1) fun l => ((n : Nat) : Int) - l) + (n + 1 : Nat) := by
        have : (sumN (n + 1) fun l => ((n + 1 : Nat) : Int) - l) = sumN (n + 1) fun l => (((n : Nat) : Int) - l) + 1 := sumN_congr fun l _ => by omega
        rw [this, sumN_add, sumN_const]; omega
      rw [e1]
      show _ = sumN n (fun l => ((n : Nat) : Int) - l) + (((n : Nat) : Int) - n) + _
      omega
    · rw [Nat.min_eq_right z, Nat.min_eq_right (show L ≤ n + 1 by omega)]
      have : (sumN L fun l => ((n + 1 : Nat) : Int) - l) = sumN L fun l => (((n : Nat) : Int) - l) + 1 := sumN_congr fun l _ => by omega
      rw [this, sumN_add, sumN_const]; omega
theorem lim_like {ns : List Int} {c : Int} (h : ∀ i, i < ns.length → vl ns i = c) : Lim ns 0 ns.length := fun b e h1 h2 => by
  have : spr ns b e = vl ns b - vl ns b := spr_at h2 (Nat.le_refl _) h1 (Nat.le_refl _) h1 (fun k k1 k2 => by rw [h k (by omega), h b (by omega)]; exact Int.le_refl _) (fun k k1 k2 => by rw [h k (by omega), h b (by omega)]; exact Int.le_refl _)
  rw [this]; omega
theorem spr_nn {ns : List Int} {b e : Nat} (h1 : b < e) (h2 : e ≤ ns.length) : 0 ≤ spr ns b e := by
  have := spread_nn (segN_ne h1 h2)
  show 0 ≤ maxL _ - minL _
  omega
theorem lim_neg {ns : List Int} {s : Int} (h : s < 0) : Lim ns s 0 := fun b e h1 h2 => by
  have := spr_nn h1 h2
  constructor <;> intro z <;> omega
theorem Lim.none {ns : List Int} {s : Int} (h : Lim ns s 0) : cntW ns s = 0 := by
  rw [h.cnt]
  have : (sumN ns.length fun i => ((min (i + 1) 0 : Nat) : Int)) = sumN ns.length fun _ => 0 := sumN_congr fun i hi => by rw [Nat.min_zero]; rfl
  rw [this, sumN_zero]
theorem lim_steps {ns : List Int} {s st : Int} (hst : 0 < st) (hs : 0 ≤ s) (h : ∀ b e, b < e → e ≤ ns.length → spr ns b e = ((e : Int) - b - 1) * st) : Lim ns s ((s / st).toNat + 1) := fun b e h1 h2 => by
  rw [h b e h1 h2]
  have h0 : 0 ≤ s / st := Int.ediv_nonneg hs (Int.le_of_lt hst)
  rw [← Int.le_ediv_iff_mul_le hst]
  omega
theorem spr_rise {ns : List Int} {st : Int} (hst : 0 < st) (h : ∀ i, i < ns.length → vl ns i = (i : Int) * st) : ∀ b e, b < e → e ≤ ns.length → spr ns b e = ((e : Int) - b - 1) * st := fun b e h1 h2 => by
  have mono : ∀ i j, i ≤ j → j < ns.length → vl ns i ≤ vl ns j := fun i j hij hj => by
    rw [h i (by omega), h j hj]
    exact Int.mul_le_mul_of_nonneg_right (by omega) (Int.le_of_lt hst)
  have : spr ns b e = vl ns (e - 1) - vl ns b := spr_at h2 (Nat.le_refl _) h1 (by omega) (by omega) (fun k k1 k2 => mono b k k1 (by omega)) (fun k k1 k2 => mono k (e - 1) (by omega) (by omega))
  rw [this, h _ (by omega), h _ (by omega), ← Int.sub_mul]
  congr 1
  omega
theorem spr_rev {ns : List Int} {b e : Nat} (h1 : b < e) (h2 : e ≤ ns.length) : spr ns.reverse (ns.length - e) (ns.length - b) = spr ns b e := by
  have := seg_rev (ns := ns) (b := (b : Int)) (e := (e : Int)) ⟨by omega, by omega, by omega⟩
  show maxL (seg ns.reverse ((ns.length - e : Nat) : Int) ((ns.length - b : Nat) : Int)) - minL (seg ns.reverse ((ns.length - e : Nat) : Int) ((ns.length - b : Nat) : Int)) = _
  rw [show ((ns.length - e : Nat) : Int) = (ns.length : Int) - e by omega, show ((ns.length - b : Nat) : Int) = (ns.length : Int) - b by omega, this, maxL_turn (segN_ne h1 h2), minL_turn (segN_ne h1 h2)]
theorem spr_fall {ns : List Int} {st : Int} (h : ∀ b e, b < e → e ≤ ns.length → spr ns b e = ((e : Int) - b - 1) * st) : ∀ b e, b < e → e ≤ ns.reverse.length → spr ns.reverse b e = ((e : Int) - b - 1) * st := fun b e h1 h2 => by
  rw [List.length_reverse] at h2
  have := spr_rev (ns := ns) (b := ns.length - e) (e := ns.length - b) (by omega) (by omega)
  rw [show ns.length - (ns.length - b) = b by omega, show ns.length - (ns.length - e) = e by omega] at this
  rw [this, h _ _ (by omega) (by omega)]
  congr 1
  omega
theorem spr_turns {ns : List Int} {c less : Int} (hl : 0 < less) (h : ∀ i, i < ns.length → vl ns i = c - less * ((i : Int) % 2)) : ∀ b e, b < e → e ≤ ns.length → spr ns b e = if e - b ≤ 1 then 0 else less := fun b e h1 h2 => by
  have val : ∀ i, i < ns.length → ((i % 2 = 0 ∧ vl ns i = c) ∨ (i % 2 = 1 ∧ vl ns i = c - less)) := fun i hi => by
    rw [h i hi]
    rcases Nat.mod_two_eq_zero_or_one i with z | z
    · left; refine ⟨z, ?_⟩; rw [show (i : Int) % 2 = 0 by omega]; omega
    · right; refine ⟨z, ?_⟩; rw [show (i : Int) % 2 = 1 by omega]; omega
  by_cases hb : e - b ≤ 1
  · rw [if_pos hb, show e = b + 1 by omega, spr_one (by omega)]
  · rw [if_neg hb]
    have v1 := val b (by omega)
    have v2 := val (b + 1) (by omega)
    rcases v1 with ⟨m1, e1⟩ | ⟨m1, e1⟩
    · have e2 : vl ns (b + 1) = c - less := by rcases v2 with ⟨m2, _⟩ | ⟨_, e2⟩; omega; exact e2
      rw [spr_at (i := b + 1) (j := b) h2 (by omega) (by omega) (Nat.le_refl _) h1 (fun k k1 k2 => ?_) (fun k k1 k2 => ?_), e1, e2]
      · omega
      · have := val k (by omega); omega
      · have := val k (by omega); omega
    · have e2 : vl ns (b + 1) = c := by rcases v2 with ⟨_, e2⟩ | ⟨m2, _⟩; exact e2; omega
      rw [spr_at (i := b) (j := b + 1) h2 (Nat.le_refl _) h1 (by omega) (by omega) (fun k k1 k2 => ?_) (fun k k1 k2 => ?_), e1, e2]
      · omega
      · have := val k (by omega); omega
      · have := val k (by omega); omega
theorem lim_turn1 {ns : List Int} {c less : Int} (hl : 0 < less) (h : ∀ i, i < ns.length → vl ns i = c - less * ((i : Int) % 2)) : Lim ns (less - 1) 1 := fun b e h1 h2 => by
  rw [spr_turns hl h b e h1 h2]
  by_cases hb : e - b ≤ 1
  · rw [if_pos hb]; constructor <;> intro _ <;> omega
  · rw [if_neg hb]; constructor <;> intro _ <;> omega
theorem lim_turnA {ns : List Int} {c less : Int} (hl : 0 < less) (h : ∀ i, i < ns.length → vl ns i = c - less * ((i : Int) % 2)) : Lim ns less ns.length := fun b e h1 h2 => by
  rw [spr_turns hl h b e h1 h2]
  by_cases hb : e - b ≤ 1
  · rw [if_pos hb]; constructor <;> intro _ <;> omega
  · rw [if_neg hb]; constructor <;> intro _ <;> omega
theorem mn_in {ns : List Int} {b e : Nat} (h1 : b < e) (h2 : e ≤ ns.length) : ∃ k, b ≤ k ∧ k < e ∧ mn ns b e = vl ns k := (mem_segN h2).mp (minL_spec (segN_ne h1 h2)).1
theorem mn_le {ns : List Int} {b e k : Nat} (h2 : e ≤ ns.length) (k1 : b ≤ k) (k2 : k < e) : mn ns b e ≤ vl ns k := (minL_spec (segN_ne (by omega) h2)).2 _ ((mem_segN h2).mpr ⟨k, k1, k2, rfl⟩)
/-- worths of like numbers -/
theorem best_like {ns : List Int} {c : Int} (hn : 0 < ns.length) (h : ∀ i, i < ns.length → vl ns i = c) (hc : 0 < c) : IsBest ns (c * ns.length) 0 ns.length := by
  have w : ∀ b e, b < e → e ≤ ns.length → wrth ns b e = c * ((e : Int) - b) := fun b e h1 h2 => by
    obtain ⟨k, _, k2, e⟩ := mn_in h1 h2
    unfold wrth; rw [e, h k (by omega)]
  refine ⟨hn, Nat.le_refl _, ?_, fun b' e' h1 h2 => ?_⟩
  · rw [w 0 _ hn (Nat.le_refl _)]; simp
  · rw [w b' e' h1 h2]
    by_cases z : (e' : Int) - b' < ns.length
    · exact .inl (Int.mul_lt_mul_of_pos_left z hc)
    · right; rw [show (e' : Int) - b' = ns.length by omega]; exact ⟨rfl, by omega⟩
theorem best_low {ns : List Int} {c : Int} (hn : 0 < ns.length) (h : ∀ i, i < ns.length → vl ns i = c) (hc : ¬ 0 < c) : IsBest ns c 0 1 := by
  have w : ∀ b e, b < e → e ≤ ns.length → wrth ns b e = c * ((e : Int) - b) := fun b e h1 h2 => by
    obtain ⟨k, _, k2, e⟩ := mn_in h1 h2
    unfold wrth; rw [e, h k (by omega)]
  refine ⟨by decide, hn, ?_, fun b' e' h1 h2 => ?_⟩
  · rw [w 0 _ (by decide) hn]; simp
  · rw [w b' e' h1 h2]
    have : c * ((e' : Int) - b') ≤ c * 1 := by
      have := Int.mul_le_mul_of_nonpos_left (a := c) (b := (e' : Int) - b') (c := 1) (by omega) (by omega)
      exact this
    rw [Int.mul_one] at this
    rcases Int.lt_or_le (c * ((e' : Int) - b')) c with z | z
    · exact .inl z
    · exact .inr ⟨by omega, by omega⟩
/-- a tower of numbers h among lesser numbers l -/
structure Tower (ns : List Int) (at' wd : Nat) (h l : Int) : Prop where
  en : at' + wd ≤ ns.length
  w0 : 0 < wd
  inn : ∀ i, at' ≤ i → i < at' + wd → vl ns i = h
  out : ∀ i, i < ns.length → (i < at' ∨ at' + wd ≤ i) → vl ns i = l
theorem Tower.mn_out {ns : List Int} {at' wd : Nat} {h l : Int} (t : Tower ns at' wd h l) (hl : l ≤ h) {b e : Nat} (h1 : b < e) (h2 : e ≤ ns.length) : (at' ≤ b ∧ e ≤ at' + wd ∧ mn ns b e = h) ∨ mn ns b e = l := by
  by_cases z : at' ≤ b ∧ e ≤ at' + wd
  · left
    obtain ⟨k, k1, k2, ek⟩ := mn_in h1 h2
    exact ⟨z.1, z.2, by rw [ek]; exact t.inn k (by omega) (by omega)⟩
  · right
    obtain ⟨k, k1, k2, ek⟩ := mn_in h1 h2
    have : ∃ j, b ≤ j ∧ j < e ∧ vl ns j = l := by
      by_cases y : at' ≤ b
      · exact ⟨e - 1, by omega, by omega, t.out _ (by omega) (.inr (by omega))⟩
      · exact ⟨b, Nat.le_refl _, h1, t.out _ (by omega) (.inl (by omega))⟩
    obtain ⟨j, j1, j2, ej⟩ := this
    have le := mn_le h2 j1 j2
    have : vl ns k = h ∨ vl ns k = l := by
      by_cases y : at' ≤ k ∧ k < at' + wd
      · exact .inl (t.inn k y.1 y.2)
      · exact .inr (t.out k (by omega) (by omega))
    rw [ej] at le
    rcases this with y | y
    · rw [ek, y] at le ⊢; omega
    · rw [ek, y]
theorem best_tower {ns : List Int} {at' wd : Nat} {h : Int} (hh : 0 < h) (t : Tower ns at' wd h 0) : IsBest ns (h * wd) at' (at' + wd) := by
  have w0 := t.w0
  have hp : 0 < h * (wd : Int) := Int.mul_pos hh (by omega)
  refine ⟨by omega, t.en, ?_, fun b' e' h1 h2 => ?_⟩
  · rcases t.mn_out (Int.le_of_lt hh) (b := at') (e := at' + wd) (by omega) t.en with ⟨_, _, z⟩ | z
    · unfold wrth; rw [z]; congr 1; omega
    · obtain ⟨k, k1, k2, ek⟩ := mn_in (ns := ns) (b := at') (e := at' + wd) (by omega) t.en
      rw [t.inn k k1 k2] at ek
      rw [ek] at z; omega
  · rcases t.mn_out (Int.le_of_lt hh) h1 h2 with ⟨a1, a2, z⟩ | z
    · unfold wrth; rw [z]
      by_cases y : (e' : Int) - b' < wd
      · exact .inl (Int.mul_lt_mul_of_pos_left y hh)
      · right
        have : e' - b' = wd := by omega
        exact ⟨by congr 1; omega, by omega⟩
    · left; unfold wrth; rw [z, Int.zero_mul]; exact hp
theorem best_sunk {ns : List Int} {at' wd : Nat} {l : Int} (hl : l ≤ -2) (t : Tower ns at' wd (-1) l) : IsBest ns (-1) at' (at' + 1) := by
  have w0 := t.w0
  have en := t.en
  refine ⟨by omega, by omega, ?_, fun b' e' h1 h2 => ?_⟩
  · obtain ⟨k, k1, k2, ek⟩ := mn_in (ns := ns) (b := at') (e := at' + 1) (by omega) (by omega)
    rw [t.inn k k1 (by omega)] at ek
    unfold wrth; rw [ek]; omega
  · rcases t.mn_out (by omega) h1 h2 with ⟨a1, a2, z⟩ | z
    · unfold wrth; rw [z]
      by_cases y : e' - b' = 1
      · right; exact ⟨by omega, by omega⟩
      · left; omega
    · left; unfold wrth; rw [z]
      have : l * ((e' : Int) - b') ≤ l * 1 := Int.mul_le_mul_of_nonpos_left (a := l) (b := (e' : Int) - b') (c := 1) (by omega) (by omega)
      omega

end Law

set_option Elab.async false
set_option linter.all false
set_option maxRecDepth 100000
set_option maxHeartbeats 4000000
namespace Law
open PySem L2
theorem cutI_one (x : Int) (r : List Int) : cutI (x :: r) none (some 1) = [x] := by
  rw [cutI_to _ _ (by decide)]; rfl
def spHand : Sp := fun vs H Q _ => ∃ cell k : Int, vs = [.int cell, .int k] ∧ ∀ p H', H p = none → Same H H' → Hand H' p → Q (.ref p) H'
def spDraw : Sp := fun vs H Q _ => ∃ (p : Addr) (limit : Int), vs = [.ref p, .int limit] ∧ Hand H p ∧ 0 < limit ∧ limit < 1073741824 ∧ ∀ got H', 0 ≤ got → got < limit → Hand H' p → But p H H' → Q (.int got) H'
def spCells (K : PySem.W.Frag) : Sp := fun vs H Q _ => ∃ (a : Addr) (many : Int) (ns : List Int), vs = [.ref a, .int many] ∧ SqL K H a (ns.map V.int) ∧ ns.length ≤ 63 ∧ ∀ (H' : Hp) (l : Addr) (ts : List Addr) (cs : List Int), Same H H' → H l = none →
  H' l = some (.lst (ts.map V.ref)) → ts.length ≤ 64 → (many = 1 → 0 < ts.length) → (∀ (j : Nat) (t : Addr), ts[j]? = some t → H' t = some (.tup [.int (j : Nat), .int (cs.getD j 0)])) → Q (.ref l) H'
def B12 (n : Int) : Prop := -1000000000000 ≤ n ∧ n ≤ 1000000000000
section
variable {P : Program} {w : World} {K : PySem.W.Frag} {mg : Str → Option Value} {base : Heap}
def x_law_hand : { t : Stmt // top 20 = t } := ⟨_, by conv => { lhs; whnf }⟩
abbrev s_law_hand : Stmt := x_law_hand.1
theorem sc_law_hand : FnScope ["cell", "k", "digits"] ["cell", "k"] (defScope s_law_hand) := ⟨rfl, rfl, rfl, by decide +kernel, rfl, by decide +kernel, by decide +kernel⟩
theorem fn_hand (D : DefAt K mg "_law_hand" s_law_hand ["cell", "k"]) : Fn P w K mg base 1 "_law_hand" ["cell", "k"] spHand := by
  refine D.fn sc_law_hand (fun vs H Q E h => ?_) (fun f cdv A outer s H vs Q E hr h => ?_)
  · obtain ⟨c, k, rfl, _⟩ := h; rfl
  · obtain ⟨c, k, rfl, q⟩ := h
    refine' ⟨_, ?tm, ?rd⟩
    (case tm =>
      (conv => { arg 2; whnf })
      refine' pss_cons ?s0 ?r0
      (case s0 =>
        exact (ps_set (i := 2) sc_law_hand.nd (by rfl) (by first | exact Or.inl rfl | exact Or.inr rfl) pe_int))
      (case r0 =>
        refine' pss_cons ?s0x ?r0x
        (case s0x =>
          refine' ps_if ?c0x ?a0x ?b0x
          (case c0x => exact (pt_cmpR op_ge (pv 0) (pe_op op_pow pe_int pe_int) (nomark _)))
          (case a0x =>
            refine' pss_one ?s0xi
            (case s0xi =>
              exact (ps_set (i := 2) sc_law_hand.nd (by rfl) (by first | exact Or.inl rfl | exact Or.inr rfl) (pv 0))))
          (case b0x =>
            exact pss_nil))
        (case r0x =>
          refine' pss_one ?s0xx
          (case s0xx =>
            exact (ps_ret (pe_lst (pa_cons (pv 2) (pa_cons (pe_op op_mod (pe_op op_mul (pe_op op_add (pe_op op_add (pe_op op_mod (pv 0) pe_int) (pe_op op_mul pe_int (pv 1))) pe_int) pe_int) pe_int) pa_nil))))))))
    have fin : ∀ d : Int, (tRet (tLst (tCons (tVar 2) (tCons (tOp (rI (fun _ j => 0 < j) fun i j => .int (i % j)) (tOp (rI CMul fun i j => .int (i * j)) (tOp (rI0 fun i j => .int (i + j)) (tOp (rI0 fun i j => .int (i + j)) (tOp (rI (fun _ j => 0 < j) fun i j => .int (i % j)) (tVar 0) (tC (.int 2147483563))) (tOp (rI CMul fun i j => .int (i * j)) (tC (.int 6271)) (tVar 1))) (tC (.int 3))) (tC (.int 40014))) (tC (.int 2147483563))) tNil)))) { nx := fun _ H' => Q .non H', rt := Q } [some (.int c), some (.int k), some (.int d)] H := by
      intro d
      refine ⟨_, rfl, _, rfl, _, _, rfl, rfl, (by show (0 : Int) < _; decide), _, rfl, _, _, rfl, rfl, .inl ⟨by decide, by decide⟩, _, _, rfl, rfl, _, _, rfl, rfl, _, _, rfl, rfl, .inr ⟨by decide, by decide⟩, _, _, rfl, rfl, (by show (0 : Int) < _; decide), (by show 2 ≤ sizeLine; decide), fun p hp => ?_⟩
      exact q p _ hp (Same.new hp) ⟨_, _, upd_same, Int.emod_nonneg _ (by decide), Int.lt_trans (Int.emod_lt_of_pos _ (by decide)) (by decide)⟩
    refine ⟨_, rfl, _, _, rfl, rfl, ⟨by decide, by decide, by decide⟩, _, _, rfl, rfl, _, rfl, ?_⟩
    refine ite2 (fun _ => ?_) (fun _ => ?_)
    · exact ⟨_, rfl, fin c⟩
    · exact fin 0
def x_law_draw : { t : Stmt // top 21 = t } := ⟨_, by conv => { lhs; whnf }⟩
abbrev s_law_draw : Stmt := x_law_draw.1
theorem sc_law_draw : FnScope ["hand", "limit", "got"] ["hand", "limit"] (defScope s_law_draw) := ⟨rfl, rfl, rfl, by decide +kernel, rfl, by decide +kernel, by decide +kernel⟩
theorem fn_draw (D : DefAt K mg "_law_draw" s_law_draw ["hand", "limit"]) : Fn P w K mg base 1 "_law_draw" ["hand", "limit"] spDraw := by
  refine D.fn sc_law_draw (fun vs H Q E h => ?_) (fun f cdv A outer s H vs Q E hr h => ?_)
  · obtain ⟨c, k, rfl, _⟩ := h; rfl
  · obtain ⟨p, limit, rfl, ⟨d, e, hp, he0, he1⟩, hl0, hl1, q⟩ := h
    refine' ⟨_, ?tm, ?rd⟩
    (case tm =>
      (conv => { arg 2; whnf })
      refine' pss_cons ?s0 ?r0
      (case s0 =>
        refine' ps_if ?c0 ?a0 ?b0
        (case c0 => exact (pt_cmpR op_gt (pe_ix ix_list (pv 0) pe_int (fun _ _ => rfl)) pe_int (nomark _)))
        (case a0 =>
          refine' pss_cons ?s0i ?r0i
          (case s0i =>
            exact (ps_set (i := 2) sc_law_draw.nd (by rfl) (by first | exact Or.inl rfl | exact Or.inr rfl) (pe_op op_mod (pe_ix ix_list (pv 0) pe_int (fun _ _ => rfl)) (pv 1))))
          (case r0i =>
            refine' pss_cons ?s0ix ?r0ix
            (case s0ix =>
              exact (ps_asg (pe_op op_fdiv (pe_ix ix_list (pv 0) pe_int (fun _ _ => rfl)) (pv 1)) (pg_sub (pv 0) pe_int set_list)))
            (case r0ix =>
              refine' pss_one ?s0ixx
              (case s0ixx =>
                exact (ps_ret (pv 2))))))
        (case b0 =>
          exact pss_nil))
      (case r0 =>
        refine' pss_cons ?s0x ?r0x
        (case s0x =>
          exact (ps_asg (pe_op op_mod (pe_op op_add (pe_op op_add (pe_op op_mul (pe_ix ix_list (pv 0) pe_int (fun _ _ => rfl)) (pe_ix ix_list (pv 0) pe_int (fun _ _ => rfl))) (pe_op op_mul pe_int (pe_ix ix_list (pv 0) pe_int (fun _ _ => rfl)))) pe_int) pe_int) (pg_sub (pv 0) pe_int set_list)))
        (case r0x =>
          refine' pss_one ?s0xx
          (case s0xx =>
            exact (ps_ret (pe_op op_mod (pe_op op_fdiv (pe_ix ix_list (pv 0) pe_int (fun _ _ => rfl)) pe_int) (pv 1)))))))
    refine ⟨_, rfl, _, _, _, _, rfl, rfl, SqL.of hp, rfl, _, _, rfl, rfl, _, rfl, ?_⟩
    refine ite2 (fun hd => ?_) (fun hd => ?_)
    · refine ⟨_, rfl, _, _, _, _, rfl, rfl, SqL.of hp, rfl, _, rfl, _, _, rfl, rfl, hl0, ?_⟩
      refine ⟨_, rfl, _, _, _, _, rfl, rfl, SqL.of hp, rfl, _, rfl, _, _, rfl, rfl, ⟨hl0, hl1⟩, _, rfl, _, _, _, _, rfl, rfl, hp, rfl, ?_⟩
      exact ⟨_, rfl, q _ _ (Int.emod_nonneg _ (by omega)) (Int.emod_lt_of_pos _ hl0) ⟨_, _, upd_same, he0, he1⟩ (But.upd _)⟩
    · refine ⟨_, rfl, _, _, _, _, rfl, rfl, SqL.of hp, rfl, _, rfl, _, _, _, _, rfl, rfl, SqL.of hp, rfl, _, _, rfl, rfl, .inl ⟨by omega, by omega⟩, _, rfl, _, _, _, _, rfl, rfl, SqL.of hp, rfl, _, _, rfl, rfl, .inl ⟨by decide, by decide⟩, _, _, rfl, rfl, _, _, rfl, rfl, _, _, rfl, rfl, (by show (0 : Int) < _; decide), ?_⟩
      refine ⟨_, rfl, _, _, _, _, rfl, rfl, hp, rfl, ?_⟩
      refine ⟨_, rfl, _, _, _, _, rfl, rfl, SqL.of upd_same, rfl, _, _, rfl, rfl, ⟨by decide, by decide⟩, _, rfl, _, _, rfl, rfl, hl0, ?_⟩
      exact q _ _ (Int.emod_nonneg _ (by omega)) (Int.emod_lt_of_pos _ hl0) ⟨_, _, upd_same, Int.emod_nonneg _ (by decide), Int.lt_trans (Int.emod_lt_of_pos _ (by decide)) (by decide)⟩ (But.upd _)
def x_law_cells : { t : Stmt // top 22 = t } := ⟨_, by conv => { lhs; whnf }⟩
abbrev s_law_cells : Stmt := x_law_cells.1
theorem sc_law_cells : FnScope ["script", "many"] ["script", "many"] (defScope s_law_cells) := ⟨rfl, rfl, rfl, by decide +kernel, rfl, by decide +kernel, by decide +kernel⟩
theorem fn_cells (B : Bl mg bls) (D : DefAt K mg "_law_cells" s_law_cells ["script", "many"]) : Fn P w K mg base 1 "_law_cells" ["script", "many"] (spCells K) := by
  refine D.fn sc_law_cells (fun vs H Q E h => ?_) (fun f cdv A outer s H vs Q E hr h => ?_)
  · obtain ⟨a, m, ns, rfl, _⟩ := h; rfl
  · obtain ⟨a, m, ns, rfl, hs, hl, q⟩ := h
    refine' ⟨_, ?tm, ?rd⟩
    (case tm =>
      (conv => { arg 2; whnf })
      refine' pss_one ?s0
      (case s0 =>
        exact (ps_ret (pe_list_enum (by rfl) (by rfl) (B "list" (by decide +kernel)) (by rfl) (B "enumerate" (by decide +kernel)) (pa_cons (pe_op op_cat (pe_slice sl_list (pv 0) po_none (po_some (pv 1))) (pe_op op_rep (pe_lst (pa_cons pe_int pa_nil)) (pe_callTy call_int1 (by rfl) (B "int" (by decide +kernel)) (by decide +kernel) (pa_cons (pe_cmpR (op_eqLI hr.units) (pv 0) (pe_lst pa_nil) (nomark _)) pa_nil)))) pa_nil)))))
    refine ⟨_, rfl, _, rfl, _, rfl, a, _, rfl, hs, fun p hp => ?_⟩
    refine ⟨(by show 1 ≤ sizeLine; decide), fun p1 hp1 => ?_⟩
    rw [cut_ints] at hp1 ⊢
    have s1 : Same H (upd H p (.lst ((cutI ns none (some m)).map V.int))) := Same.new hp
    have s2 := s1.trans (Same.new (o := .lst [.int 0]) hp1)
    refine ⟨_, rfl, (by show 0 ≤ sizeLine; decide), fun p2 hp2 => ?_⟩
    have s3 := s2.trans (Same.new (o := .lst []) hp2)
    refine ⟨a, p2, ns, [], rfl, rfl, s3.seq hs, SqL.of upd_same, .inr ⟨_, rfl, ?_⟩⟩
    have n12 : p1 ≠ p2 := ne_of_none upd_same hp2
    have n01 : p ≠ p1 := ne_of_none upd_same hp1
    have n02 : p ≠ p2 := ne_of_none (a := p) (by rw [upd_ne n01]; exact upd_same) hp2
    have hk : ∀ b : Bool, (0 : Int) ≤ (if b = true then 1 else 0) ∧ (if b = true then (1 : Int) else 0) ≤ 1 := fun b => by cases b <;> decide
    have hpos : m = 1 → 0 < (cutI ns none (some m)).length + (if decide (ns = []) = true then (1 : Int) else 0).toNat := fun e => by
      subst e
      cases ns with
      | nil => exact Nat.succ_pos _
      | cons x r =>
        rw [cutI_one]
        exact Nat.succ_pos _
    generalize decide (ns = []) = bb at hpos ⊢
    have hkb := hk bb
    generalize (if bb = true then (1 : Int) else 0) = kk at hkb hpos ⊢
    refine ⟨p1, _, [.int 0], rfl, rfl, (by rw [upd_ne n12]; exact upd_same), (by omega), (by omega), ?_, fun p3 hp3 => ?_⟩
    · exact line1000 (by show 1 * kk.toNat ≤ 1000; omega)
    have e0 : ([.int 0] : List V) = ([0] : List Int).map V.int := rfl
    rw [e0, repI]
    have n03 : p ≠ p3 := ne_of_none (a := p) (by rw [upd_ne n02, upd_ne n01]; exact upd_same) hp3
    have s4 := s3.trans (Same.new (o := .lst (((List.replicate kk.toNat ([0] : List Int)).flatten).map V.int)) hp3)
    have hz : (cutI ns none (some m)).length + (List.replicate kk.toNat ([0] : List Int)).flatten.length ≤ 64 := by
      have h1 := cutI_len ns none (some m)
      rw [len_rep]
      show _ + kk.toNat * 1 ≤ 64
      omega
    refine ⟨p, p3, _, _, rfl, rfl, (by rw [upd_ne n03, upd_ne n02, upd_ne n01]; exact upd_same), upd_same, ?_, fun p4 hp4 => ?_⟩
    · rw [List.length_map, List.length_map]; exact line1000 (by omega)
    rw [← List.map_append]
    refine ⟨p4, _, rfl, SqL.of upd_same, fun H' l ts sm hl' ct tl fr tt => ?_⟩
    have s5 := s4.trans (Same.new (o := .lst ((cutI ns none (some m) ++ (List.replicate kk.toNat ([0] : List Int)).flatten).map V.int)) hp4)
    refine q H' l ts (cutI ns none (some m) ++ (List.replicate kk.toNat ([0] : List Int)).flatten) (s5.trans sm) (s5.free hl') ct (by rw [tl, List.length_map, List.length_append]; exact hz) (fun e => by rw [tl, List.length_map, List.length_append, len_rep]; show 0 < _ + kk.toNat * 1; have := hpos e; omega) fun j t hj => ?_
    rw [tt j t hj]
    have hjl : j < ((cutI ns none (some m) ++ (List.replicate kk.toNat ([0] : List Int)).flatten).map V.int).length := by rw [← tl]; exact (List.getElem?_eq_some_iff.mp hj).1
    rw [List.length_map] at hjl
    rw [getD_ints hjl]
end

end Law

set_option Elab.async false
set_option linter.all false
set_option maxRecDepth 100000
set_option maxHeartbeats 4000000
namespace Law
open PySem L2
theorem rep_flat (n : Nat) (c : Int) : (List.replicate n [c]).flatten = List.replicate n c := by simp
theorem vl_rep {n : Nat} {c : Int} : ∀ i, i < (List.replicate n c).length → vl (List.replicate n c) i = c := fun i hi => by
  rw [List.length_replicate] at hi
  unfold vl
  rw [List.getD_eq_getElem?_getD, List.getElem?_replicate, if_pos hi]; rfl
abbrev stepRow (n : Nat) (st : Int) : List Int := (List.range n).map fun (j : Nat) => (j : Int) * st
abbrev turnRow (n : Nat) (one less : Int) : List Int := (List.range n).map fun (j : Nat) => one - less * ((j : Int) % 2)
def spLike (K : PySem.W.Frag) : Sp := fun vs H Q _ => ∃ (n : Nat) (one : Int), vs = [.int (n : Int), .int one] ∧ 0 < n ∧ n ≤ 300 ∧ B12 one ∧ ∀ H', Same H H' → Q (.bl true) H'
section
variable {P : Program} {w : World} {K : PySem.W.Frag} {mg : Str → Option Value} {base : Heap}
def x_law_like_right : { t : Stmt // top 23 = t } := ⟨_, by conv => { lhs; whnf }⟩
abbrev s_law_like_right : Stmt := x_law_like_right.1
theorem sc_law_like_right : FnScope ["many", "one", "row"] ["many", "one"] (defScope s_law_like_right) := ⟨rfl, rfl, rfl, by decide +kernel, rfl, by decide +kernel, by decide +kernel⟩
theorem fn_like (B : Bl mg bls) (D : DefAt K mg "_law_like_right" s_law_like_right ["many", "one"]) (Fmany_within : Fn P w K mg base 6 "many_within" ["row", "spread"] (spWithin K)) (Flongest_within : Fn P w K mg base 6 "longest_within" ["row", "spread"] (spLongest K)) (Fworth_of : Fn P w K mg base 5 "worth_of" ["row", "begin", "end"] (spWorth K)) (Fmost_worth : Fn P w K mg base 2 "most_worth" ["row"] (spMost K)) : Fn P w K mg base 7 "_law_like_right" ["many", "one"] (spLike K) := by
  refine D.fn sc_law_like_right (fun vs H Q E h => ?_) (fun f cdv A outer s H vs Q E hr h => ?_)
  · obtain ⟨n, one, rfl, _⟩ := h; rfl
  · obtain ⟨n, one, rfl, hn0, hn1, hb, q⟩ := h
    refine' ⟨_, ?tm, ?rd⟩
    (case tm =>
      (conv => { arg 2; whnf })
      refine' pss_cons ?s0 ?r0
      (case s0 =>
        exact (ps_set (i := 2) sc_law_like_right.nd (by rfl) (by first | exact Or.inl rfl | exact Or.inr rfl) (pe_op op_rep (pe_lst (pa_cons (pv 1) pa_nil)) (pv 0))))
      (case r0 =>
        refine' pss_cons ?s0x ?r0x
        (case s0x =>
          refine' ps_if ?c0x ?a0x ?b0x
          (case c0x => exact (PW.pt (pw_or (pt_cmpR op_ne (pe_fn Fmany_within hr (by rfl) (pa_cons (pv 2) (pa_cons pe_int pa_nil))) (pe_op op_fdiv (pe_op op_mul (pv 0) (pe_op op_add (pv 0) pe_int)) pe_int) (nomark _)) (pw_or1 (pt_cmpR (op_neTI hr.units) (pe_fn Flongest_within hr (by rfl) (pa_cons (pv 2) (pa_cons pe_int pa_nil))) (pe_tup (pa_cons pe_int (pa_cons (pv 0) pa_nil))) (nomark _))))))
          (case a0x =>
            refine' pss_one ?s0xi
            (case s0xi =>
              exact (ps_ret pe_bl)))
          (case b0x =>
            exact pss_nil))
        (case r0x =>
          refine' pss_cons ?s0xx ?r0xx
          (case s0xx =>
            refine' ps_if ?c0xx ?a0xx ?b0xx
            (case c0xx => exact (PW.pt (pw_or (pt_cmpR op_ne (pe_fn Fmany_within hr (by rfl) (pa_cons (pv 2) (pa_cons (pe_un un_neg pe_int) pa_nil))) pe_int (nomark _)) (pw_or1 (pt_cmpR op_ne (pe_fn Fworth_of hr (by rfl) (pa_cons (pv 2) (pa_cons pe_int (pa_cons (pv 0) pa_nil)))) (pe_op op_mul (pv 1) (pv 0)) (nomark _))))))
            (case a0xx =>
              refine' pss_one ?s0xxi
              (case s0xxi =>
                exact (ps_ret pe_bl)))
            (case b0xx =>
              exact pss_nil))
          (case r0xx =>
            refine' pss_cons ?s0xxx ?r0xxx
            (case s0xxx =>
              refine' ps_if ?c0xxx ?a0xxx ?b0xxx
              (case c0xxx => exact (pt_cmpR op_gt (pv 1) pe_int (nomark _)))
              (case a0xxx =>
                refine' pss_one ?s0xxxi
                (case s0xxxi =>
                  exact (ps_ret (pe_cmpR (op_eqTI hr.units) (pe_fn Fmost_worth hr (by rfl) (pa_cons (pv 2) pa_nil)) (pe_tup (pa_cons (pe_op op_mul (pv 1) (pv 0)) (pa_cons pe_int (pa_cons (pv 0) pa_nil)))) (nomark _)))))
              (case b0xxx =>
                exact pss_nil))
            (case r0xxx =>
              refine' pss_one ?s0xxxx
              (case s0xxxx =>
                exact (ps_ret (pe_cmpR (op_eqTI hr.units) (pe_fn Fmost_worth hr (by rfl) (pa_cons (pv 2) pa_nil)) (pe_tup (pa_cons (pv 1) (pa_cons pe_int (pa_cons pe_int pa_nil)))) (nomark _)))))))))
    refine ⟨_, rfl, (by show 1 ≤ sizeLine; decide), fun p1 hp1 => ?_⟩
    have s1 := Same.new (o := .lst [.int one]) hp1
    refine ⟨_, rfl, p1, _, [.int one], rfl, rfl, upd_same, (by omega), (by omega), ?_, fun r hr' => ?_⟩
    · exact line1000 (by show 1 * (n : Int).toNat ≤ 1000; omega)
    have e0 : ([.int one] : List V) = ([one] : List Int).map V.int := rfl
    rw [e0, repI, Int.toNat_natCast, rep_flat]
    have s2 := s1.trans (Same.new (o := .lst ((List.replicate n one).map V.int)) hr')
    have cr : upd (upd H p1 (.lst [.int one])) r (.lst ((List.replicate n one).map V.int)) r = some (.lst ((List.replicate n one).map V.int)) := upd_same
    rw [e0] at s2 cr
    generalize upd (upd H p1 (.lst (([one] : List Int).map V.int))) r (.lst ((List.replicate n one).map V.int)) = H2 at s2 cr ⊢
    have hv := vl_rep (n := n) (c := one)
    have hlen : (List.replicate n one).length = n := List.length_replicate
    have rb : ∀ x ∈ List.replicate n one, -(2 ^ 62) < x ∧ x < 2 ^ 62 := fun x hx => by rw [(List.mem_replicate.mp hx).2]; unfold B12 at hb; omega
    generalize List.replicate n one = rs at cr hv hlen rb ⊢
    have hl0 : 0 < rs.length := by omega
    have hl3 : rs.length ≤ 300 := by omega
    have lim := lim_like hv
    dsimp only [gName]
    refine seqJ (fun σ' H' => σ' = [some (.int (n : Int)), some (.int one), some (.ref r)] ∧ Same H2 H') (fun fin => ?_) ?_
    · refine ⟨_, rfl, r, rs, 0, rfl, SqL.of cr, hl3, fun H3 s3 => ?_⟩
      rw [lim.every, hlen]
      refine ⟨_, rfl, _, rfl, _, _, rfl, rfl, _, _, rfl, rfl, .inl ⟨by omega, by omega⟩, _, _, rfl, rfl, ⟨by decide, by decide⟩, rfl, _, rfl, ifNot rfl ?_⟩
      refine ⟨_, rfl, r, rs, 0, rfl, SqL.of (s3 _ _ cr), hl3, fun hno => ?_, fun t H4 b e s4 ft ct hlg => ?_⟩
      · have := hno 0 rs.length hl0 (Nat.le_refl _)
        have := (lim 0 rs.length hl0 (Nat.le_refl _)).mpr (by omega)
        omega
      have ll := lim.long hl0 hl0
      rw [Nat.min_self] at ll
      obtain ⟨u1, u2⟩ := hlg.uniq ll
      subst u1 u2
      refine ⟨_, rfl, (by show 2 ≤ sizeLine; decide), fun t5 ht5 => ?_⟩
      have s5 := Same.new (o := .tup [.int 0, .int (n : Int)]) ht5
      rw [hlen] at ct
      refine ⟨t, t5, [0, (n : Int)], [0, (n : Int)], rfl, rfl, SqT.of (s5 _ _ ct), SqT.of upd_same, _, rfl, ifNot rfl ?_⟩
      exact fin _ _ ⟨rfl, s3.trans (s4.trans s5)⟩
    rintro _ H3 ⟨rfl, s3⟩
    refine seqJ (fun σ' H' => σ' = [some (.int (n : Int)), some (.int one), some (.ref r)] ∧ Same H2 H') (fun fin => ?_) ?_
    · refine ⟨_, rfl, _, rfl, r, rs, -1, rfl, SqL.of (s3 _ _ cr), hl3, fun H4 s4 => ?_⟩
      rw [(lim_neg (ns := rs) (s := -1) (by decide)).none]
      refine ⟨rfl, _, rfl, ifNot rfl ?_⟩
      have s34 := s3.trans s4
      refine ⟨_, rfl, _, rfl, r, rs, 0, (n : Int), rfl, SqL.of (s34 _ _ cr), ⟨by decide, by omega, by omega⟩, hl3, fun H5 s5 => ?_⟩
      refine ⟨_, rfl, _, rfl, _, _, rfl, rfl, .inr ⟨by omega, by omega⟩, rfl, _, rfl, ifNot ?_ (fin _ _ ⟨rfl, s34.trans s5⟩)⟩
      have em : minL (seg rs 0 (n : Int)) = one := by
        obtain ⟨k, k1, k2, ek⟩ := mn_in (ns := rs) (b := 0) (e := n) hn0 (by omega)
        rw [← hv k (by omega), ← ek]; rfl
      show V.int (minL (seg rs 0 (n : Int)) * ((n : Int) - 0)) = V.int (one * (n : Int))
      rw [em, Int.sub_zero]
    clear s3
    rintro _ H4 ⟨rfl, s4⟩
    have cr4 := s4 _ _ cr
    refine ⟨_, rfl, _, _, rfl, rfl, _, rfl, ?_⟩
    refine ite2 (fun z => ?_) (fun z => ?_)
    · have z' : 0 < one := of_decide_eq_true z
      refine ⟨_, rfl, r, rs, rfl, SqL.of cr4, hl3, rb, fun e => by rw [e] at hl0; exact absurd hl0 (Nat.lt_irrefl _), fun t H5 W b e s5 ft ct hB => ?_⟩
      obtain ⟨rfl, rfl, rfl⟩ := hB.uniq (best_like hl0 hv z')
      rw [hlen] at ct
      refine ⟨_, rfl, _, rfl, _, _, rfl, rfl, .inr ⟨by omega, by omega⟩, _, rfl, (by show 3 ≤ sizeLine; decide), fun t2 ht2 => ?_⟩
      refine ⟨t, t2, [one * (n : Int), 0, (n : Int)], [one * (n : Int), 0, (n : Int)], rfl, rfl, SqT.of ((Same.new ht2) _ _ ct), SqT.of upd_same, ?_⟩
      rw [decide_eq_true rfl]
      exact q _ ((s2.trans s4).trans (s5.trans (Same.new ht2)))
    · have z' : ¬ 0 < one := fun y => z (decide_eq_true y)
      refine ⟨_, rfl, r, rs, rfl, SqL.of cr4, hl3, rb, fun e => by rw [e] at hl0; exact absurd hl0 (Nat.lt_irrefl _), fun t H5 W b e s5 ft ct hB => ?_⟩
      obtain ⟨eW, u1, u2⟩ := hB.uniq (best_low hl0 hv z')
      rw [eW, u1, u2] at ct
      refine ⟨_, rfl, (by show 3 ≤ sizeLine; decide), fun t2 ht2 => ?_⟩
      refine ⟨t, t2, [one, 0, 1], [one, 0, 1], rfl, rfl, SqT.of ((Same.new ht2) _ _ ct), SqT.of upd_same, ?_⟩
      rw [decide_eq_true rfl]
      exact q _ ((s2.trans s4).trans (s5.trans (Same.new ht2)))
def spSteps (K : PySem.W.Frag) : Sp := fun vs H Q _ => ∃ (n : Nat) (st sd : Int), vs = [.int (n : Int), .int st, .int sd] ∧ 0 < n ∧ n ≤ 300 ∧ 0 < st ∧ st ≤ 1000000000 ∧ 0 ≤ sd ∧ ∀ H', Same H H' → Q (.bl true) H'
def x_law_steps_right : { t : Stmt // top 24 = t } := ⟨_, by conv => { lhs; whnf }⟩
abbrev s_law_steps_right : Stmt := x_law_steps_right.1
theorem sc_law_steps_right : FnScope ["many", "step", "spread", "row", "k", "long", "due", "length", "some"] ["many", "step", "spread"] (defScope s_law_steps_right) := ⟨rfl, rfl, rfl, by decide +kernel, rfl, by decide +kernel, by decide +kernel⟩
theorem fn_steps (B : Bl mg bls) (D : DefAt K mg "_law_steps_right" s_law_steps_right ["many", "step", "spread"]) (Fmany_within : Fn P w K mg base 6 "many_within" ["row", "spread"] (spWithin K)) (Flongest_within : Fn P w K mg base 6 "longest_within" ["row", "spread"] (spLongest K)) : Fn P w K mg base 7 "_law_steps_right" ["many", "step", "spread"] (spSteps K) := by
  refine D.fn sc_law_steps_right (fun vs H Q E h => ?_) (fun f cdv A outer s H vs Q E hr h => ?_)
  · obtain ⟨n, st, sd, rfl, _⟩ := h; rfl
  · obtain ⟨n, st, sd, rfl, hn0, hn1, hst0, hst1, hsd, q⟩ := h
    refine' ⟨_, ?tm, ?rd⟩
    (case tm =>
      (conv => { arg 2; whnf })
      refine' pss_cons ?s0 ?r0
      (case s0 =>
        exact (ps_setLc (i := 3) (own := [("k", 4)]) (g := (gName 4)) (by rfl) sc_law_steps_right.nd (by rfl) (by rfl) (sw_true (by rfl) (by rfl) (by rfl) (by decide +kernel)) (pi_range1 (by rfl) (B "range" (by decide +kernel)) (pa_cons (pv 0) pa_nil)) (blkOk_by (own := [("k", 4)]) (N := ["many", "step", "spread", "row", "k", "long", "due", "length", "some"]) (sc := defScope s_law_steps_right) (by decide +kernel)) (fun _ _ _ _ _ => (pg_name (i := 4) sc_law_steps_right.nd (by rfl) (by first | exact Or.inl rfl | exact Or.inr rfl))) (fun _ _ _ _ _ => pts_nil) (fun _ _ _ _ _ => (pe_op op_mul (pv 4) (pv 1)))))
      (case r0 =>
        refine' pss_cons ?s0x ?r0x
        (case s0x =>
          exact (ps_set (i := 5) sc_law_steps_right.nd (by rfl) (by first | exact Or.inl rfl | exact Or.inr rfl) (pe_callB (call_min2 rfl) (by rfl) (B "min" (by decide +kernel)) (by decide +kernel) (pa_cons (pv 0) (pa_cons (pe_op op_add (pe_op op_fdiv (pv 2) (pv 1)) pe_int) pa_nil)))))
        (case r0x =>
          refine' pss_cons ?s0xx ?r0xx
          (case s0xx =>
            exact (ps_set (i := 6) sc_law_steps_right.nd (by rfl) (by first | exact Or.inl rfl | exact Or.inr rfl) (pe_callB (cr_sum rfl) (by rfl) (B "sum" (by decide +kernel)) (by decide +kernel) (pa_cons (pe_lc (own := [("length", 7)]) (g := (gName 7)) (by rfl) sc_law_steps_right.nd (pi_range2 (by rfl) (B "range" (by decide +kernel)) (pa_cons pe_int (pa_cons (pe_op op_add (pv 5) pe_int) pa_nil))) (blkOk_by (own := [("length", 7)]) (N := ["many", "step", "spread", "row", "k", "long", "due", "length", "some"]) (sc := defScope s_law_steps_right) (by decide +kernel)) (fun _ _ _ _ _ => (pg_name (i := 7) sc_law_steps_right.nd (by rfl) (by first | exact Or.inl rfl | exact Or.inr rfl))) (fun _ _ _ _ _ => pts_nil) (fun _ _ _ _ _ => (pe_op op_add (pe_op op_sub (pv 0) (pv 7)) pe_int))) pa_nil))))
          (case r0xx =>
            refine' pss_cons ?s0xxx ?r0xxx
            (case s0xxx =>
              refine' ps_for PassesOwn.never (by rfl) ?i0xxx ?g0xxx ?d0xxx
              (case i0xxx => exact (pi_list (pe_lst (pa_cons (pv 3) (pa_cons (pe_rev (pv 3)) pa_nil)))))
              (case g0xxx => exact (pg_name (i := 8) sc_law_steps_right.nd (by rfl) (by first | exact Or.inl rfl | exact Or.inr rfl)))
              (case d0xxx =>
                refine' pss_one ?s0xxxf
                (case s0xxxf =>
                  refine' ps_if ?c0xxxf ?a0xxxf ?b0xxxf
                  (case c0xxxf => exact (PW.pt (pw_or (pt_cmpR op_ne (pe_fn Fmany_within hr (by rfl) (pa_cons (pv 8) (pa_cons (pv 2) pa_nil))) (pv 6) (nomark _)) (pw_or1 (pt_cmpR (op_neTI hr.units) (pe_fn Flongest_within hr (by rfl) (pa_cons (pv 8) (pa_cons (pv 2) pa_nil))) (pe_tup (pa_cons pe_int (pa_cons (pv 5) pa_nil))) (nomark _))))))
                  (case a0xxxf =>
                    refine' pss_one ?s0xxxfi
                    (case s0xxxfi =>
                      exact (ps_ret pe_bl)))
                  (case b0xxxf =>
                    exact pss_nil))))
            (case r0xxx =>
              refine' pss_one ?s0xxxx
              (case s0xxxx =>
                exact (ps_ret pe_bl)))))))
    refine ⟨_, rfl, (n : Int), rfl, by omega, by omega, fun r hr' => lc_rngI (lo := 0) (n := (n : Int).toNat) (f := fun (j : Nat) => (j : Int) * st) hr' (by omega) (fun v => rfl) (fun j H' R hj r => ⟨_, rfl, _, rfl, _, _, rfl, rfl, .inl ⟨by omega, by omega⟩, by rw [Int.zero_add]; exact r⟩) ?_⟩
    rw [Int.toNat_natCast]
    have s2 := Same.new (o := .lst ((stepRow n st).map V.int)) hr'
    have cr : upd H r (.lst ((stepRow n st).map V.int)) r = some (.lst ((stepRow n st).map V.int)) := upd_same
    generalize upd H r (.lst ((stepRow n st).map V.int)) = H2 at s2 cr ⊢
    have hlen : (stepRow n st).length = n := by rw [List.length_map, List.length_range]
    have hv : ∀ i, i < (stepRow n st).length → vl (stepRow n st) i = (i : Int) * st := fun i hi => by rw [hlen] at hi; exact rng_at hi
    generalize (stepRow n st) = rs at cr hv hlen ⊢
    have hl0 : 0 < rs.length := by omega
    have sr := spr_rise hst0 hv
    have h0 : 0 ≤ sd / st := Int.ediv_nonneg hsd (Int.le_of_lt hst0)
    dsimp only [gName]
    refine ⟨_, rfl, _, rfl, _, rfl, _, _, rfl, rfl, ⟨hst0, by omega⟩, _, _, rfl, rfl, _, _, rfl, ?_⟩
    have elong : (if sd / st + 1 < (n : Int) then sd / st + 1 else (n : Int)) = ((min n ((sd / st).toNat + 1) : Nat) : Int) := by split <;> omega
    rw [elong]
    have lim1 := lim_steps hst0 hsd sr
    have lim2 := lim_steps (ns := rs.reverse) hst0 hsd (spr_fall sr)
    have hLp : 0 < (sd / st).toNat + 1 := Nat.succ_pos _
    generalize (sd / st).toNat + 1 = L at lim1 lim2 hLp ⊢
    dsimp only [gName]
    refine ⟨_, rfl, _, _, rfl, rfl, 1, _, rfl, ⟨by decide, by decide, by omega, by omega⟩, fun D2 hD2 => lc_rngI (lo := 1) (n := (((min n L : Nat) : Int) + 1 - 1).toNat) (f := fun (j : Nat) => (n : Int) - (1 + (j : Int)) + 1) hD2 (by omega) (fun v => rfl) (fun j H' R hj r => ⟨_, rfl, _, rfl, _, _, rfl, rfl, _, _, rfl, rfl, r⟩) ?_⟩
    have en : (((min n L : Nat) : Int) + 1 - 1).toNat = min n L := by omega
    rw [en]
    have s3 := Same.new (o := .lst (((List.range (min n L)).map fun (j : Nat) => (n : Int) - (1 + (j : Int)) + 1).map V.int)) hD2
    refine ⟨D2, _, rfl, SqL.of upd_same, ?_⟩
    have es : ((List.range (min n L)).map fun (j : Nat) => (n : Int) - (1 + (j : Int)) + 1).sum = sumN n fun i => ((min (i + 1) L : Nat) : Int) := by
      rw [range_sumN, steps_sum L n]
      exact sumN_congr fun j _ => by omega
    rw [es]
    have cr3 := s3 _ _ cr
    generalize upd H2 D2 (.lst (((List.range (min n L)).map fun (j : Nat) => (n : Int) - (1 + (j : Int)) + 1).map V.int)) = H3 at s3 cr3 ⊢
    dsimp only [gName]
    refine ⟨_, rfl, _, rfl, r, _, rfl, SqL.of cr3, fun e1 he1 => ?_⟩
    rw [← List.map_reverse]
    have s4 := Same.new (o := .lst (rs.reverse.map V.int)) he1
    have c1 : upd H3 e1 (.lst (rs.reverse.map V.int)) e1 = some (.lst (rs.reverse.map V.int)) := upd_same
    generalize upd H3 e1 (.lst (rs.reverse.map V.int)) = H4 at s4 c1 ⊢
    refine ⟨(by show 2 ≤ sizeLine; decide), fun S hS => ?_⟩
    have s5 := Same.new (o := .lst [.ref r, .ref e1]) hS
    have cS : upd H4 S (.lst [.ref r, .ref e1]) S = some (.lst ([r, e1].map V.ref)) := upd_same
    generalize upd H4 S (.lst [.ref r, .ref e1]) = H5 at s5 cS ⊢
    have each : ∀ d ∈ [r, e1], ∃ os : List Int, H5 d = some (.lst (os.map V.int)) ∧ os.length = n ∧ Lim os sd L := fun d hd => by
      have hd' : d = r ∨ d = e1 := by simpa using hd
      rcases hd' with rfl | rfl
      · exact ⟨rs, (s4.trans s5) _ _ cr3, hlen, lim1⟩
      · exact ⟨rs.reverse, s5 _ _ c1, by rw [List.length_reverse]; exact hlen, lim2⟩
    refine ⟨S, rfl, ⟨_, SqL.of cS⟩, for_list (K := K) (a := S) (xs := [r, e1].map V.ref) (fun j σ' H' => ∃ w7 w8 : Option V, σ' = [some (.int (n : Int)), some (.int st), some (.int sd), some (.ref r), none, some (.int ((min n L : Nat) : Int)), some (.int (sumN n fun i => ((min (i + 1) L : Nat) : Int))), w7, w8] ∧ Same H5 H') ⟨_, _, rfl, Same.refl _⟩ (fun j σ' H' _ ⟨_, _, _, z⟩ => SqL.of (z _ _ cS)) ?_ ?_⟩
    · rintro j x σ' H6 hx ⟨w7, w8, rfl, s6⟩
      obtain ⟨d, hd, rfl⟩ := get_refs hx
      obtain ⟨os, cd, ol, olim⟩ := each d (List.mem_of_getElem? hd)
      have cd6 := s6 _ _ cd
      dsimp only [gName]
      refine ⟨_, rfl, _, rfl, d, os, sd, rfl, SqL.of cd6, by omega, fun H7 s7 => ?_⟩
      rw [olim.cnt, ol]
      refine ⟨_, rfl, rfl, _, rfl, ifNot rfl ?_⟩
      refine ⟨_, rfl, _, rfl, d, os, sd, rfl, SqL.of (s7 _ _ cd6), by omega, fun hno => ?_, fun t H8 b e s8 ft ct hlg => ?_⟩
      · have h1 := hno 0 1 (by decide) (by omega)
        have h2 := (olim 0 1 (by decide) (by omega)).mpr (by omega)
        omega
      obtain ⟨u1, u2⟩ := hlg.uniq (olim.long (by omega) hLp)
      rw [u1, u2, ol] at ct
      refine ⟨_, rfl, (by show 2 ≤ sizeLine; decide), fun t9 ht9 => ?_⟩
      have s9 := Same.new (o := .tup [.int 0, .int ((min n L : Nat) : Int)]) ht9
      refine ⟨t, t9, [0, ((min n L : Nat) : Int)], [0, ((min n L : Nat) : Int)], rfl, rfl, SqT.of (s9 _ _ ct), SqT.of upd_same, _, rfl, ifNot rfl ?_⟩
      exact ⟨_, _, rfl, s6.trans (s7.trans (s8.trans s9))⟩
    · rintro σ' H6 ⟨w7, w8, rfl, s6⟩
      exact q _ ((s2.trans s3).trans (s4.trans (s5.trans s6)))
def spTurns (K : PySem.W.Frag) : Sp := fun vs H Q _ => ∃ (n : Nat) (one less : Int), vs = [.int (n : Int), .int one, .int less] ∧ 0 < n ∧ n ≤ 300 ∧ 0 < less ∧ less ≤ 1000000 ∧ ∀ H', Same H H' → Q (.bl true) H'
def x_law_turns_right : { t : Stmt // top 25 = t } := ⟨_, by conv => { lhs; whnf }⟩
abbrev s_law_turns_right : Stmt := x_law_turns_right.1
theorem sc_law_turns_right : FnScope ["many", "one", "less", "row", "k", "every"] ["many", "one", "less"] (defScope s_law_turns_right) := ⟨rfl, rfl, rfl, by decide +kernel, rfl, by decide +kernel, by decide +kernel⟩
theorem fn_turns (B : Bl mg bls) (D : DefAt K mg "_law_turns_right" s_law_turns_right ["many", "one", "less"]) (Fmany_within : Fn P w K mg base 6 "many_within" ["row", "spread"] (spWithin K)) (Flongest_within : Fn P w K mg base 6 "longest_within" ["row", "spread"] (spLongest K)) : Fn P w K mg base 7 "_law_turns_right" ["many", "one", "less"] (spTurns K) := by
  refine D.fn sc_law_turns_right (fun vs H Q E h => ?_) (fun f cdv A outer s H vs Q E hr h => ?_)
  · obtain ⟨n, st, sd, rfl, _⟩ := h; rfl
  · obtain ⟨n, one, less, rfl, hn0, hn1, hl1, hl2, q⟩ := h
    refine' ⟨_, ?tm, ?rd⟩
    (case tm =>
      (conv => { arg 2; whnf })
      refine' pss_cons ?s0 ?r0
      (case s0 =>
        exact (ps_setLc (i := 3) (own := [("k", 4)]) (g := (gName 4)) (by rfl) sc_law_turns_right.nd (by rfl) (by rfl) (sw_true (by rfl) (by rfl) (by rfl) (by decide +kernel)) (pi_range1 (by rfl) (B "range" (by decide +kernel)) (pa_cons (pv 0) pa_nil)) (blkOk_by (own := [("k", 4)]) (N := ["many", "one", "less", "row", "k", "every"]) (sc := defScope s_law_turns_right) (by decide +kernel)) (fun _ _ _ _ _ => (pg_name (i := 4) sc_law_turns_right.nd (by rfl) (by first | exact Or.inl rfl | exact Or.inr rfl))) (fun _ _ _ _ _ => pts_nil) (fun _ _ _ _ _ => (pe_op op_sub (pv 1) (pe_op op_mul (pv 2) (pe_op op_mod (pv 4) pe_int))))))
      (case r0 =>
        refine' pss_cons ?s0x ?r0x
        (case s0x =>
          exact (ps_set (i := 5) sc_law_turns_right.nd (by rfl) (by first | exact Or.inl rfl | exact Or.inr rfl) (pe_op op_fdiv (pe_op op_mul (pv 0) (pe_op op_add (pv 0) pe_int)) pe_int)))
        (case r0x =>
          refine' pss_cons ?s0xx ?r0xx
          (case s0xx =>
            refine' ps_if ?c0xx ?a0xx ?b0xx
            (case c0xx => exact (PW.pt (pw_or (pt_cmpR op_ne (pe_fn Fmany_within hr (by rfl) (pa_cons (pv 3) (pa_cons (pe_op op_sub (pv 2) pe_int) pa_nil))) (pv 0) (nomark _)) (pw_or1 (pt_cmpR (op_neTI hr.units) (pe_fn Flongest_within hr (by rfl) (pa_cons (pv 3) (pa_cons (pe_op op_sub (pv 2) pe_int) pa_nil))) (pe_tup (pa_cons pe_int (pa_cons pe_int pa_nil))) (nomark _))))))
            (case a0xx =>
              refine' pss_one ?s0xxi
              (case s0xxi =>
                exact (ps_ret pe_bl)))
            (case b0xx =>
              exact pss_nil))
          (case r0xx =>
            refine' pss_one ?s0xxx
            (case s0xxx =>
              exact (ps_ret (pe_and (pe_cmpR op_eq (pe_fn Fmany_within hr (by rfl) (pa_cons (pv 3) (pa_cons (pv 2) pa_nil))) (pv 5) (nomark _)) (pe_one (pe_cmpR (op_eqTI hr.units) (pe_fn Flongest_within hr (by rfl) (pa_cons (pv 3) (pa_cons (pv 2) pa_nil))) (pe_tup (pa_cons pe_int (pa_cons (pv 0) pa_nil))) (nomark _))))))))))
    refine ⟨_, rfl, (n : Int), rfl, by omega, by omega, fun r hr' => lc_rngI (lo := 0) (n := (n : Int).toNat) (f := fun (j : Nat) => one - less * ((j : Int) % 2)) hr' (by omega) (fun v => rfl) (fun j H' R hj r => ⟨_, rfl, _, rfl, _, rfl, _, _, rfl, rfl, (by show (0 : Int) < _; decide), _, _, rfl, rfl, .inl ⟨by omega, by omega⟩, _, _, rfl, rfl, by rw [Int.zero_add]; exact r⟩) ?_⟩
    rw [Int.toNat_natCast]
    have s2 := Same.new (o := .lst ((turnRow n one less).map V.int)) hr'
    have cr : upd H r (.lst ((turnRow n one less).map V.int)) r = some (.lst ((turnRow n one less).map V.int)) := upd_same
    generalize upd H r (.lst ((turnRow n one less).map V.int)) = H2 at s2 cr ⊢
    have hlen : (turnRow n one less).length = n := by rw [List.length_map, List.length_range]
    have hv : ∀ i, i < (turnRow n one less).length → vl (turnRow n one less) i = one - less * ((i : Int) % 2) := fun i hi => by rw [hlen] at hi; exact rng_at hi
    generalize (turnRow n one less) = rs at cr hv hlen ⊢
    have hl0 : 0 < rs.length := by omega
    have lim1 := lim_turn1 hl1 hv
    have lim2 := lim_turnA hl1 hv
    dsimp only [gName]
    refine ⟨_, rfl, _, rfl, _, _, rfl, rfl, _, _, rfl, rfl, .inl ⟨by omega, by omega⟩, _, _, rfl, rfl, ⟨by decide, by decide⟩, ?_⟩
    dsimp only [gName]
    refine seqJ (fun σ' H' => σ' = [some (.int (n : Int)), some (.int one), some (.int less), some (.ref r), none, some (.int ((n : Int) * ((n : Int) + 1) / 2))] ∧ Same H2 H') (fun fin => ?_) ?_
    · refine ⟨_, rfl, _, rfl, _, _, rfl, rfl, r, rs, _, rfl, SqL.of cr, by omega, fun H3 s3 => ?_⟩
      rw [lim1.ones, hlen]
      refine ⟨_, rfl, rfl, _, rfl, ifNot rfl ?_⟩
      refine ⟨_, rfl, _, rfl, _, _, rfl, rfl, r, rs, _, rfl, SqL.of (s3 _ _ cr), by omega, fun hno => ?_, fun t H4 b e s4 ft ct hlg => ?_⟩
      · have h1 := hno 0 1 (by decide) (by omega)
        have h2 := (lim1 0 1 (by decide) (by omega)).mpr (by omega)
        omega
      obtain ⟨u1, u2⟩ := hlg.uniq (lim1.long hl0 (by decide))
      rw [u1, u2, Nat.min_eq_right (by omega)] at ct
      refine ⟨(by show 2 ≤ sizeLine; decide), fun t5 ht5 => ?_⟩
      have s5 := Same.new (o := .tup [.int 0, .int 1]) ht5
      refine ⟨t, t5, [0, 1], [0, 1], rfl, rfl, SqT.of (s5 _ _ ct), SqT.of upd_same, _, rfl, ifNot rfl ?_⟩
      exact fin _ _ ⟨rfl, s3.trans (s4.trans s5)⟩
    rintro _ H3 ⟨rfl, s3⟩
    have cr3 := s3 _ _ cr
    refine ⟨_, rfl, _, rfl, r, rs, _, rfl, SqL.of cr3, by omega, fun H4 s4 => ?_⟩
    rw [lim2.every, hlen]
    refine ⟨_, rfl, rfl, _, rfl, ?_⟩
    refine ifEq rfl ?_
    refine ⟨_, rfl, _, rfl, r, rs, _, rfl, SqL.of (s4 _ _ cr3), by omega, fun hno => ?_, fun t H5 b e s5 ft ct hlg => ?_⟩
    · have h1 := hno 0 1 (by decide) (by omega)
      have h2 := (lim2 0 1 (by decide) (by omega)).mpr (by omega)
      omega
    obtain ⟨u1, u2⟩ := hlg.uniq (lim2.long hl0 hl0)
    rw [u1, u2, Nat.min_self, hlen] at ct
    refine ⟨_, rfl, (by show 2 ≤ sizeLine; decide), fun t6 ht6 => ?_⟩
    refine ⟨t, t6, [0, (n : Int)], [0, (n : Int)], rfl, rfl, SqT.of ((Same.new ht6) _ _ ct), SqT.of upd_same, ?_⟩
    rw [decide_eq_true rfl]
    exact q _ ((s2.trans s3).trans ((s4.trans s5).trans (Same.new ht6)))
end

end Law

set_option Elab.async false
set_option linter.all false
set_option maxRecDepth 100000
set_option maxHeartbeats 4000000
namespace Law
open PySem L2
theorem tower_of (a w c : Nat) (h l : Int) (hw : 0 < w) : Tower (List.replicate a l ++ List.replicate w h ++ List.replicate c l) a w h l := by
  have len : (List.replicate a l ++ List.replicate w h ++ List.replicate c l).length = a + w + c := by simp; omega
  have get : ∀ i, vl (List.replicate a l ++ List.replicate w h ++ List.replicate c l) i = if i < a then l else if i < a + w then h else if i < a + w + c then l else 0 := fun i => by
    unfold vl
    rw [List.getD_eq_getElem?_getD, List.getElem?_append, List.getElem?_append]
    simp only [List.length_append, List.length_replicate, List.getElem?_replicate]
    by_cases h1 : i < a
    · rw [if_pos (by omega), if_pos h1, if_pos h1, if_pos h1]; rfl
    · rw [if_neg h1]
      by_cases h2 : i < a + w
      · rw [if_pos h2, if_neg h1, if_pos (show i - a < w by omega), if_pos h2]; rfl
      · rw [if_neg h2, if_neg h1, if_neg h2]
        by_cases h3 : i < a + w + c
        · rw [if_pos (show i - (a + w) < c by omega), if_pos h3]; rfl
        · rw [if_neg (show ¬ i - (a + w) < c by omega), if_neg h3]; rfl
  refine ⟨by rw [len]; omega, hw, fun i h1 h2 => ?_, fun i h1 h2 => ?_⟩
  · rw [get, if_neg (by omega), if_pos h2]
  · rw [len] at h1
    rw [get]
    by_cases z : i < a
    · rw [if_pos z]
    · rw [if_neg z, if_neg (by omega), if_pos h1]
theorem repV (k : Nat) (c : Int) : (List.replicate k [V.int c]).flatten = (List.replicate k c).map V.int := by simp
theorem Tower.map {ns : List Int} {a w : Nat} {h l : Int} (t : Tower ns a w h l) (f : Int → Int) : Tower (ns.map f) a w (f h) (f l) :=
  ⟨by rw [List.length_map]; exact t.en, t.w0, fun i h1 h2 => by rw [vl_map (by have := t.en; omega), t.inn i h1 h2], fun i h1 h2 => by rw [List.length_map] at h1; rw [vl_map h1, t.out i h1 h2]⟩
def spTower (K : PySem.W.Frag) : Sp := fun vs H Q _ => ∃ (n a w : Nat) (h : Int), vs = [.int (n : Int), .int (a : Int), .int (w : Int), .int h] ∧ n ≤ 300 ∧ a + w ≤ n ∧ 0 < w ∧ 0 < h ∧ h ≤ 1000000000000 ∧ ∀ H', Same H H' → Q (.bl true) H'
section
variable {P : Program} {w : World} {K : PySem.W.Frag} {mg : Str → Option Value} {base : Heap}
def x_law_tower_right : { t : Stmt // top 26 = t } := ⟨_, by conv => { lhs; whnf }⟩
abbrev s_law_tower_right : Stmt := x_law_tower_right.1
theorem sc_law_tower_right : FnScope ["many", "at", "wide", "high", "row", "low", "number"] ["many", "at", "wide", "high"] (defScope s_law_tower_right) := ⟨rfl, rfl, rfl, by decide +kernel, rfl, by decide +kernel, by decide +kernel⟩
theorem fn_tower (B : Bl mg bls) (D : DefAt K mg "_law_tower_right" s_law_tower_right ["many", "at", "wide", "high"]) (Fmost_worth : Fn P w K mg base 2 "most_worth" ["row"] (spMost K)) : Fn P w K mg base 7 "_law_tower_right" ["many", "at", "wide", "high"] (spTower K) := by
  refine D.fn sc_law_tower_right (fun vs H Q E h => ?_) (fun f cdv A outer s H vs Q E hr h => ?_)
  · obtain ⟨n, a, wd, h, rfl, _⟩ := h; rfl
  · obtain ⟨n, a, wd, h, rfl, hn, haw, hw0, hh0, hh1, q⟩ := h
    refine' ⟨_, ?tm, ?rd⟩
    (case tm =>
      (conv => { arg 2; whnf })
      refine' pss_cons ?s0 ?r0
      (case s0 =>
        exact (ps_set (i := 4) sc_law_tower_right.nd (by rfl) (by first | exact Or.inl rfl | exact Or.inr rfl) (pe_op op_cat (pe_op op_cat (pe_op op_rep (pe_lst (pa_cons pe_int pa_nil)) (pv 1)) (pe_op op_rep (pe_lst (pa_cons (pv 3) pa_nil)) (pv 2))) (pe_op op_rep (pe_lst (pa_cons pe_int pa_nil)) (pe_op op_sub (pe_op op_sub (pv 0) (pv 1)) (pv 2))))))
      (case r0 =>
        refine' pss_cons ?s0x ?r0x
        (case s0x =>
          refine' ps_if ?c0x ?a0x ?b0x
          (case c0x => exact (pt_cmpR (op_neTI hr.units) (pe_fn Fmost_worth hr (by rfl) (pa_cons (pv 4) pa_nil)) (pe_tup (pa_cons (pe_op op_mul (pv 3) (pv 2)) (pa_cons (pv 1) (pa_cons (pe_op op_add (pv 1) (pv 2)) pa_nil)))) (nomark _)))
          (case a0x =>
            refine' pss_one ?s0xi
            (case s0xi =>
              exact (ps_ret pe_bl)))
          (case b0x =>
            exact pss_nil))
        (case r0x =>
          refine' pss_cons ?s0xx ?r0xx
          (case s0xx =>
            exact (ps_setLc (i := 5) (own := [("number", 6)]) (g := (gName 6)) (by rfl) sc_law_tower_right.nd (by rfl) (by rfl) (sw_true (by rfl) (by rfl) (by rfl) (by decide +kernel)) (pi_list (pv 4)) (blkOk_by (own := [("number", 6)]) (N := ["many", "at", "wide", "high", "row", "low", "number"]) (sc := defScope s_law_tower_right) (by decide +kernel)) (fun _ _ _ _ _ => (pg_name (i := 6) sc_law_tower_right.nd (by rfl) (by first | exact Or.inl rfl | exact Or.inr rfl))) (fun _ _ _ _ _ => pts_nil) (fun _ _ _ _ _ => (pe_op op_sub (pe_op op_sub (pv 6) (pv 3)) pe_int))))
          (case r0xx =>
            refine' pss_one ?s0xxx
            (case s0xxx =>
              exact (ps_ret (pe_cmpR (op_eqTI hr.units) (pe_fn Fmost_worth hr (by rfl) (pa_cons (pv 5) pa_nil)) (pe_tup (pa_cons (pe_un un_neg pe_int) (pa_cons (pv 1) (pa_cons (pe_op op_add (pv 1) pe_int) pa_nil)))) (nomark _))))))))
    refine ⟨(by show 1 ≤ sizeLine; decide), fun p1 hp1 => ?_⟩
    have s1 := Same.new (o := .lst [.int 0]) hp1
    refine ⟨_, rfl, p1, _, [.int 0], rfl, rfl, upd_same, (by omega), (by omega), line1000 (by show 1 * (a : Int).toNat ≤ 1000; omega), fun p2 hp2 => ?_⟩
    rw [repV, Int.toNat_natCast]
    have s2 := s1.trans (Same.new (o := .lst ((List.replicate a 0).map V.int)) hp2)
    have c2 : upd (upd H p1 (.lst [.int 0])) p2 (.lst ((List.replicate a 0).map V.int)) p2 = some (.lst ((List.replicate a 0).map V.int)) := upd_same
    generalize upd (upd H p1 (.lst [.int 0])) p2 (.lst ((List.replicate a 0).map V.int)) = H2 at s2 c2 ⊢
    clear s1 hp1 hp2
    refine ⟨_, rfl, (by show 1 ≤ sizeLine; decide), fun p3 hp3 => ?_⟩
    have s3 := Same.new (o := .lst [.int h]) hp3
    refine ⟨_, rfl, p3, _, [.int h], rfl, rfl, upd_same, (by omega), (by omega), line1000 (by show 1 * (wd : Int).toNat ≤ 1000; omega), fun p4 hp4 => ?_⟩
    rw [repV, Int.toNat_natCast]
    have s4 := s3.trans (Same.new (o := .lst ((List.replicate wd h).map V.int)) hp4)
    have c4 : upd (upd H2 p3 (.lst [.int h])) p4 (.lst ((List.replicate wd h).map V.int)) p4 = some (.lst ((List.replicate wd h).map V.int)) := upd_same
    generalize upd (upd H2 p3 (.lst [.int h])) p4 (.lst ((List.replicate wd h).map V.int)) = H4 at s4 c4 ⊢
    refine ⟨p2, p4, _, _, rfl, rfl, s4 _ _ c2, c4, ?_, fun p5 hp5 => ?_⟩
    · rw [List.length_map, List.length_map, List.length_replicate, List.length_replicate]; exact line1000 (by omega)
    rw [← List.map_append]
    have s5 := Same.new (o := .lst ((List.replicate a 0 ++ List.replicate wd h).map V.int)) hp5
    have c5 : upd H4 p5 (.lst ((List.replicate a 0 ++ List.replicate wd h).map V.int)) p5 = some (.lst ((List.replicate a 0 ++ List.replicate wd h).map V.int)) := upd_same
    generalize upd H4 p5 (.lst ((List.replicate a 0 ++ List.replicate wd h).map V.int)) = H5 at s5 c5 ⊢
    refine ⟨(by show 1 ≤ sizeLine; decide), fun p6 hp6 => ?_⟩
    have s6 := Same.new (o := .lst [.int 0]) hp6
    refine ⟨_, rfl, _, rfl, _, _, rfl, rfl, _, rfl, _, _, rfl, rfl, p6, _, [.int 0], rfl, rfl, upd_same, (by omega), (by omega), line1000 (by show 1 * ((n : Int) - (a : Int) - (wd : Int)).toNat ≤ 1000; omega), fun p7 hp7 => ?_⟩
    rw [repV, show ((n : Int) - (a : Int) - (wd : Int)).toNat = n - a - wd by omega]
    have s7 := s6.trans (Same.new (o := .lst ((List.replicate (n - a - wd) 0).map V.int)) hp7)
    have c7 : upd (upd H5 p6 (.lst [.int 0])) p7 (.lst ((List.replicate (n - a - wd) 0).map V.int)) p7 = some (.lst ((List.replicate (n - a - wd) 0).map V.int)) := upd_same
    generalize upd (upd H5 p6 (.lst [.int 0])) p7 (.lst ((List.replicate (n - a - wd) 0).map V.int)) = H7 at s7 c7 ⊢
    refine ⟨p5, p7, _, _, rfl, rfl, s7 _ _ c5, c7, ?_, fun r hr' => ?_⟩
    · rw [List.length_map, List.length_map, List.length_append, List.length_replicate, List.length_replicate, List.length_replicate]; exact line1000 (by omega)
    rw [← List.map_append]
    have s8 := Same.new (o := .lst ((List.replicate a 0 ++ List.replicate wd h ++ List.replicate (n - a - wd) 0).map V.int)) hr'
    have cr : upd H7 r (.lst ((List.replicate a 0 ++ List.replicate wd h ++ List.replicate (n - a - wd) 0).map V.int)) r = some (.lst ((List.replicate a 0 ++ List.replicate wd h ++ List.replicate (n - a - wd) 0).map V.int)) := upd_same
    generalize upd H7 r (.lst ((List.replicate a 0 ++ List.replicate wd h ++ List.replicate (n - a - wd) 0).map V.int)) = H8 at s8 cr ⊢
    have S8 := s2.trans (s4.trans (s5.trans (s7.trans s8)))
    have tw := tower_of a wd (n - a - wd) h 0 hw0
    have hlen : (List.replicate a (0 : Int) ++ List.replicate wd h ++ List.replicate (n - a - wd) 0).length = n := by simp; omega
    have hbd : ∀ x ∈ (List.replicate a (0 : Int) ++ List.replicate wd h ++ List.replicate (n - a - wd) 0), x = 0 ∨ x = h := fun x hx => by
      simp only [List.mem_append, List.mem_replicate] at hx
      rcases hx with (⟨_, e⟩ | ⟨_, e⟩) | ⟨_, e⟩
      · exact .inl e
      · exact .inr e
      · exact .inl e
    generalize (List.replicate a (0 : Int) ++ List.replicate wd h ++ List.replicate (n - a - wd) 0) = rs at cr tw hlen hbd ⊢
    clear s4 s5 s7 s8 c2 c4 c5 c7 s3 s6
    dsimp only [gName]
    have hl0 : 0 < rs.length := by omega
    refine ⟨_, rfl, r, rs, rfl, SqL.of cr, by omega, (fun x hx => by have := hbd x hx; omega), fun e => by rw [e] at hl0; exact absurd hl0 (Nat.lt_irrefl _), fun t H9 W b e s9 ft ct hB => ?_⟩
    obtain ⟨eW, u1, u2⟩ := hB.uniq (best_tower hh0 tw)
    rw [eW, u1, u2] at ct
    refine ⟨_, rfl, _, rfl, _, _, rfl, rfl, .inl ⟨by omega, by omega⟩, _, rfl, _, rfl, _, rfl, _, _, rfl, rfl, (by show 3 ≤ sizeLine; decide), fun t2 ht2 => ?_⟩
    have s10 := Same.new (o := .tup [.int (h * (wd : Int)), .int (a : Int), .int ((a : Int) + (wd : Int))]) ht2
    have ct' : H9 t = some (.tup [.int (h * (wd : Int)), .int (a : Int), .int ((a : Int) + (wd : Int))]) := by rw [ct]; rfl
    refine ⟨t, t2, [h * (wd : Int), (a : Int), (a : Int) + (wd : Int)], [h * (wd : Int), (a : Int), (a : Int) + (wd : Int)], rfl, rfl, SqT.of (s10 _ _ ct'), SqT.of upd_same, _, rfl, ifNot rfl ?_⟩
    dsimp only [gName, tNext]
    have cr10 := (s9.trans s10) _ _ cr
    generalize upd H9 t2 (.tup [.int (h * (wd : Int)), .int (a : Int), .int ((a : Int) + (wd : Int))]) = H10 at s10 cr10 ⊢
    refine ⟨_, rfl, r, rfl, ⟨_, SqL.of cr10⟩, fun D1 hD1 => lc_mapI (f := fun x => x - h - 1) (SqL.of cr10) hD1 (by omega) (fun v => rfl) (fun x H' R r => ⟨_, rfl, _, rfl, _, _, rfl, rfl, _, _, rfl, rfl, r⟩) ?_⟩
    have s11 := Same.new (o := .lst ((rs.map fun x => x - h - 1).map V.int)) hD1
    have tw2 := tw.map fun x => x - h - 1
    rw [show h - h - 1 = -1 by omega] at tw2
    have hl2 : (rs.map fun x => x - h - 1).length = n := by rw [List.length_map]; exact hlen
    dsimp only [gName]
    refine ⟨_, rfl, D1, _, rfl, SqL.of upd_same, by omega, (fun x hx => by
      obtain ⟨y, hy, rfl⟩ := List.mem_map.mp hx
      have := hbd y hy
      omega), fun e => by rw [e] at hl2; simp at hl2; omega, fun t3 H12 W3 b3 e3 s12 ft3 ct3 hB3 => ?_⟩
    obtain ⟨eW3, u3, u4⟩ := hB3.uniq (best_sunk (by omega) tw2)
    rw [eW3, u3, u4] at ct3
    refine ⟨_, rfl, _, rfl, _, rfl, _, _, rfl, rfl, (by show 3 ≤ sizeLine; decide), fun t4 ht4 => ?_⟩
    refine ⟨t3, t4, [-1, (a : Int), (a : Int) + 1], [-1, (a : Int), (a : Int) + 1], rfl, rfl, SqT.of ((Same.new ht4) _ _ ct3), SqT.of upd_same, ?_⟩
    rw [decide_eq_true rfl]
    exact q _ (S8.trans ((s9.trans s10).trans (s11.trans (s12.trans (Same.new ht4)))))
end

end Law

set_option Elab.async false
set_option linter.all false
set_option maxRecDepth 100000
set_option maxHeartbeats 4000000
namespace Law
open PySem L2
def spLaw (K : PySem.W.Frag) : Sp := fun vs H Q _ => ∃ (a : Addr) (ns : List Int), vs = [.ref a] ∧ SqL K H a (ns.map V.int) ∧ ns.length ≤ 63 ∧ ∀ H', Q (.bl true) H'
theorem e12 : (10 : Int) ^ Int.toNat 12 = 1000000000000 := by decide
theorem e9 : (10 : Int) ^ Int.toNat 9 = 1000000000 := by decide
theorem e6 : (10 : Int) ^ Int.toNat 6 = 1000000 := by decide
section
variable {P : Program} {w : World} {K : PySem.W.Frag} {mg : Str → Option Value} {base : Heap}
def xlaw : { t : Stmt // top 27 = t } := ⟨_, by conv => { lhs; whnf }⟩
abbrev slaw : Stmt := xlaw.1
theorem sclaw : FnScope ["script", "hand", "turn", "many", "one", "step", "less", "at", "wide"] ["script"] (defScope slaw) := ⟨rfl, rfl, rfl, by decide +kernel, rfl, by decide +kernel, by decide +kernel⟩
theorem ok_law {f : Addr} {fd : FuncData} (B : Bl mg bls) (Fl : Fun K "law" "law" slaw f fd) (F_law_cells : Fn P w K mg base 1 "_law_cells" ["script", "many"] (spCells K)) (F_law_hand : Fn P w K mg base 1 "_law_hand" ["cell", "k"] spHand) (F_law_draw : Fn P w K mg base 1 "_law_draw" ["hand", "limit"] spDraw)
    (F_law_like_right : Fn P w K mg base 7 "_law_like_right" ["many", "one"] (spLike K)) (F_law_steps_right : Fn P w K mg base 7 "_law_steps_right" ["many", "step", "spread"] (spSteps K)) (F_law_turns_right : Fn P w K mg base 7 "_law_turns_right" ["many", "one", "less"] (spTurns K)) (F_law_tower_right : Fn P w K mg base 7 "_law_tower_right" ["many", "at", "wide", "high"] (spTower K)) : FnOk P w K mg base CX0 8 f fd ["script"] (spLaw K) := by
  refine Fl.ok sclaw (fun vs H Q E h => ?_) (fun cdv A outer s H vs Q E hr h => ?_)
  · obtain ⟨a, ns, rfl, _⟩ := h; rfl
  · obtain ⟨a, ns, rfl, hs, hl, q⟩ := h
    refine' ⟨_, ?tm, ?rd⟩
    (case tm =>
      (conv => { arg 2; whnf })
      refine' pss_cons ?s0 ?r0
      (case s0 =>
        exact (ps_set (i := 1) sclaw.nd (by rfl) (by first | exact Or.inl rfl | exact Or.inr rfl) (pe_fn F_law_hand hr (by rfl) (pa_cons (pe_ix ix_tup (pe_ix ix_list (pe_fn F_law_cells hr (by rfl) (pa_cons (pv 0) (pa_cons pe_int pa_nil))) pe_int (fun _ _ => rfl)) pe_int (fun _ _ => rfl)) (pa_cons pe_int pa_nil)))))
      (case r0 =>
        refine' pss_cons ?s0x ?r0x
        (case s0x =>
          refine' ps_for PassesOwn.never (by rfl) ?i0x ?g0x ?d0x
          (case i0x => exact (pi_range1 (by rfl) (B "range" (by decide +kernel)) (pa_cons pe_int pa_nil)))
          (case g0x => exact (pg_name (i := 2) sclaw.nd (by rfl) (by first | exact Or.inl rfl | exact Or.inr rfl)))
          (case d0x =>
            refine' pss_cons ?s0xf ?r0xf
            (case s0xf =>
              exact (ps_set (i := 3) sclaw.nd (by rfl) (by first | exact Or.inl rfl | exact Or.inr rfl) (pe_ix ix_list (pe_lst (pa_cons pe_int (pa_cons (pe_op op_add pe_int (pe_fn F_law_draw hr (by rfl) (pa_cons (pv 1) (pa_cons pe_int pa_nil)))) (pa_cons (pe_op op_add pe_int (pe_fn F_law_draw hr (by rfl) (pa_cons (pv 1) (pa_cons pe_int pa_nil)))) pa_nil)))) (pe_fn F_law_draw hr (by rfl) (pa_cons (pv 1) (pa_cons pe_int pa_nil))) (fun _ _ => rfl))))
            (case r0xf =>
              refine' pss_cons ?s0xfx ?r0xfx
              (case s0xfx =>
                exact (ps_set (i := 4) sclaw.nd (by rfl) (by first | exact Or.inl rfl | exact Or.inr rfl) (pe_ix ix_list (pe_lst (pa_cons (pe_op op_pow pe_int pe_int) (pa_cons pe_int (pa_cons (pe_un un_neg (pe_op op_pow pe_int pe_int)) (pa_cons (pe_op op_sub (pe_fn F_law_draw hr (by rfl) (pa_cons (pv 1) (pa_cons pe_int pa_nil))) pe_int) pa_nil))))) (pe_fn F_law_draw hr (by rfl) (pa_cons (pv 1) (pa_cons pe_int pa_nil))) (fun _ _ => rfl))))
              (case r0xfx =>
                refine' pss_cons ?s0xfxx ?r0xfxx
                (case s0xfxx =>
                  refine' ps_if ?c0xfxx ?a0xfxx ?b0xfxx
                  (case c0xfxx => exact (pt_not (pt_val (pe_fn F_law_like_right hr (by rfl) (pa_cons (pv 3) (pa_cons (pv 4) pa_nil))))))
                  (case a0xfxx =>
                    refine' pss_one ?s0xfxxi
                    (case s0xfxxi =>
                      exact (ps_ret pe_bl)))
                  (case b0xfxx =>
                    exact pss_nil))
                (case r0xfxx =>
                  refine' pss_cons ?s0xfxxx ?r0xfxxx
                  (case s0xfxxx =>
                    exact (ps_set (i := 5) sclaw.nd (by rfl) (by first | exact Or.inl rfl | exact Or.inr rfl) (pe_op op_add pe_int (pe_fn F_law_draw hr (by rfl) (pa_cons (pv 1) (pa_cons (pe_ix ix_list (pe_lst (pa_cons pe_int (pa_cons (pe_op op_pow pe_int pe_int) pa_nil))) (pe_fn F_law_draw hr (by rfl) (pa_cons (pv 1) (pa_cons pe_int pa_nil))) (fun _ _ => rfl)) pa_nil))))))
                  (case r0xfxxx =>
                    refine' pss_cons ?s0xfxxxx ?r0xfxxxx
                    (case s0xfxxxx =>
                      refine' ps_if ?c0xfxxxx ?a0xfxxxx ?b0xfxxxx
                      (case c0xfxxxx => exact (pt_not (pt_val (pe_fn F_law_steps_right hr (by rfl) (pa_cons (pv 3) (pa_cons (pv 5) (pa_cons (pe_op op_add (pe_op op_mul (pe_fn F_law_draw hr (by rfl) (pa_cons (pv 1) (pa_cons (pv 3) pa_nil))) (pv 5)) (pe_fn F_law_draw hr (by rfl) (pa_cons (pv 1) (pa_cons (pv 5) pa_nil)))) pa_nil)))))))
                      (case a0xfxxxx =>
                        refine' pss_one ?s0xfxxxxi
                        (case s0xfxxxxi =>
                          exact (ps_ret pe_bl)))
                      (case b0xfxxxx =>
                        exact pss_nil))
                    (case r0xfxxxx =>
                      refine' pss_cons ?s0xfxxxxx ?r0xfxxxxx
                      (case s0xfxxxxx =>
                        exact (ps_set (i := 6) sclaw.nd (by rfl) (by first | exact Or.inl rfl | exact Or.inr rfl) (pe_op op_add pe_int (pe_fn F_law_draw hr (by rfl) (pa_cons (pv 1) (pa_cons (pe_op op_pow pe_int pe_int) pa_nil))))))
                      (case r0xfxxxxx =>
                        refine' pss_cons ?s0xfxxxxxx ?r0xfxxxxxx
                        (case s0xfxxxxxx =>
                          refine' ps_if ?c0xfxxxxxx ?a0xfxxxxxx ?b0xfxxxxxx
                          (case c0xfxxxxxx => exact (pt_not (pt_val (pe_fn F_law_turns_right hr (by rfl) (pa_cons (pv 3) (pa_cons (pe_ix ix_list (pe_lst (pa_cons (pe_op op_pow pe_int pe_int) (pa_cons (pe_op op_sub (pv 6) (pe_op op_pow pe_int pe_int)) (pa_cons pe_int pa_nil)))) (pe_fn F_law_draw hr (by rfl) (pa_cons (pv 1) (pa_cons pe_int pa_nil))) (fun _ _ => rfl)) (pa_cons (pv 6) pa_nil)))))))
                          (case a0xfxxxxxx =>
                            refine' pss_one ?s0xfxxxxxxi
                            (case s0xfxxxxxxi =>
                              exact (ps_ret pe_bl)))
                          (case b0xfxxxxxx =>
                            exact pss_nil))
                        (case r0xfxxxxxx =>
                          refine' pss_cons ?s0xfxxxxxxx ?r0xfxxxxxxx
                          (case s0xfxxxxxxx =>
                            exact (ps_set (i := 7) sclaw.nd (by rfl) (by first | exact Or.inl rfl | exact Or.inr rfl) (pe_fn F_law_draw hr (by rfl) (pa_cons (pv 1) (pa_cons (pv 3) pa_nil)))))
                          (case r0xfxxxxxxx =>
                            refine' pss_cons ?s0xfxxxxxxxx ?r0xfxxxxxxxx
                            (case s0xfxxxxxxxx =>
                              exact (ps_set (i := 8) sclaw.nd (by rfl) (by first | exact Or.inl rfl | exact Or.inr rfl) (pe_op op_add pe_int (pe_fn F_law_draw hr (by rfl) (pa_cons (pv 1) (pa_cons (pe_op op_sub (pv 3) (pv 7)) pa_nil))))))
                            (case r0xfxxxxxxxx =>
                              refine' pss_one ?s0xfxxxxxxxxx
                              (case s0xfxxxxxxxxx =>
                                refine' ps_if ?c0xfxxxxxxxxx ?a0xfxxxxxxxxx ?b0xfxxxxxxxxx
                                (case c0xfxxxxxxxxx => exact (pt_not (pt_val (pe_fn F_law_tower_right hr (by rfl) (pa_cons (pv 3) (pa_cons (pv 7) (pa_cons (pv 8) (pa_cons (pe_ix ix_list (pe_lst (pa_cons pe_int (pa_cons (pe_op op_sub (pe_op op_pow pe_int pe_int) pe_int) (pa_cons pe_int pa_nil)))) (pe_fn F_law_draw hr (by rfl) (pa_cons (pv 1) (pa_cons pe_int pa_nil))) (fun _ _ => rfl)) pa_nil))))))))
                                (case a0xfxxxxxxxxx =>
                                  refine' pss_one ?s0xfxxxxxxxxxi
                                  (case s0xfxxxxxxxxxi =>
                                    exact (ps_ret pe_bl)))
                                (case b0xfxxxxxxxxx =>
                                  exact pss_nil)))))))))))))
        (case r0x =>
          refine' pss_one ?s0xx
          (case s0xx =>
            exact (ps_ret pe_bl)))))
    refine ⟨_, rfl, a, _, ns, rfl, hs, hl, fun H1 l ts cs s1 f1 c1 tl t0 tt => ?_⟩
    have e0 : ts[0]? = some (ts[0]'(t0 rfl)) := List.getElem?_eq_getElem (t0 rfl)
    generalize ts[0]'(t0 rfl) = t at e0
    have ct := tt 0 t e0
    refine ⟨l, _, _, _, rfl, rfl, SqL.of c1, at_of (j := 0) rfl (by rw [List.getElem?_map, e0]; rfl), t, _, _, _, rfl, rfl, SqT.of ct, rfl, _, _, rfl, fun p H2 fp s2 hh2 => ?_⟩
    dsimp only [gName]
    refine ⟨_, rfl, by decide, by decide, ?_⟩
    refine for_range (lo := 0) (n := 2) (fun i σ H' => ∃ v2 v3 v4 v5 v6 v7 v8 : Option V, σ = [some (.ref a), some (.ref p), v2, v3, v4, v5, v6, v7, v8] ∧ Hand H' p) ⟨_, _, _, _, _, _, _, rfl, hh2⟩ ?_ ?_
    · clear ct e0 tt s2 hh2
      rintro i σ H3 hi ⟨v2, v3, v4, v5, v6, v7, v8, rfl, hh3⟩
      dsimp only [gName]
      refine ⟨_, rfl, p, _, rfl, hh3, by decide, by decide, fun g4 H4 a4 b4 hh4 k4 => ?_⟩
      refine ⟨_, _, rfl, rfl, _, rfl, p, _, rfl, hh4, by decide, by decide, fun g5 H5 a5 b5 hh5 k5 => ?_⟩
      refine ⟨_, _, rfl, rfl, (by show 3 ≤ sizeLine; decide), fun q6 hq6 => ?_⟩
      have hh6 := hh5.new (o := .lst [.int 300, .int (1 + g4), .int (1 + g5)]) hq6
      have cq6 : upd H5 q6 (.lst [.int 300, .int (1 + g4), .int (1 + g5)]) q6 = some (.lst ([300, 1 + g4, 1 + g5].map V.int)) := upd_same
      have nq6 : q6 ≠ p := hh5.ne hq6
      generalize upd H5 q6 (.lst [.int 300, .int (1 + g4), .int (1 + g5)]) = H6 at cq6 hh6 ⊢
      refine ⟨_, rfl, p, _, rfl, hh6, by decide, by decide, fun g7 H7 a7 b7 hh7 k7 => ?_⟩
      obtain ⟨many, hmany, emany⟩ := at_pick (ns := [300, 1 + g4, 1 + g5]) (i := g7) a7 b7
      have hm : many = 300 ∨ many = 1 + g4 ∨ many = 1 + g5 := by simpa using hmany
      refine ⟨q6, _, _, _, rfl, rfl, SqL.of (k7 _ _ nq6 cq6), emany, ?_⟩
      obtain ⟨n, rfl⟩ : ∃ n : Nat, many = (n : Int) := ⟨many.toNat, by omega⟩
      have hn0 : 0 < n := by omega
      have hn1 : n ≤ 300 := by omega
      clear hm hmany emany cq6 nq6 hh6 k4 k5 k7 hh3 hh4 hh5
      dsimp only [gName]
      refine ⟨_, _, rfl, rfl, ⟨by decide, by decide, by decide⟩, _, _, rfl, rfl, ⟨by decide, by decide, by decide⟩, _, rfl, _, rfl, p, _, rfl, hh7, by decide, by decide, fun g8 H8 a8 b8 hh8 k8 => ?_⟩
      set_option simprocs false in dsimp only
      rw [e12]
      refine ⟨_, _, rfl, rfl, (by show 4 ≤ sizeLine; decide), fun q9 hq9 => ?_⟩
      have hh9 := hh8.new (o := .lst [.int 1000000000000, .int 0, .int (-1000000000000), .int (g8 - 49)]) hq9
      have cq9 : upd H8 q9 (.lst [.int 1000000000000, .int 0, .int (-1000000000000), .int (g8 - 49)]) q9 = some (.lst ([1000000000000, 0, -1000000000000, g8 - 49].map V.int)) := upd_same
      have nq9 : q9 ≠ p := hh8.ne hq9
      generalize upd H8 q9 (.lst [.int 1000000000000, .int 0, .int (-1000000000000), .int (g8 - 49)]) = H9 at cq9 hh9 ⊢
      refine ⟨_, rfl, p, _, rfl, hh9, by decide, by decide, fun g10 H10 a10 b10 hh10 k10 => ?_⟩
      obtain ⟨one, hone, eone⟩ := at_pick (ns := [1000000000000, 0, -1000000000000, g8 - 49]) (i := g10) a10 b10
      have ho : one = 1000000000000 ∨ one = 0 ∨ one = -1000000000000 ∨ one = g8 - 49 := by simpa using hone
      refine ⟨q9, _, _, _, rfl, rfl, SqL.of (k10 _ _ nq9 cq9), eone, ?_⟩
      clear hone eone cq9 nq9 hh9 k10 k8 hh8 hh7
      dsimp only [gName]
      refine ⟨_, rfl, _, rfl, n, one, rfl, hn0, hn1, ⟨by omega, by omega⟩, fun H11 s11 => ⟨_, rfl, ?_⟩⟩
      have hh11 := hh10.same s11
      dsimp only [gName, tNext]
      refine ⟨_, rfl, _, _, rfl, rfl, ⟨by decide, by decide, by decide⟩, (by show 2 ≤ sizeLine; decide), fun q12 hq12 => ?_⟩
      set_option simprocs false in dsimp only
      rw [e9]
      have hh12 := hh11.new (o := .lst [.int 3, .int 1000000000]) hq12
      have cq12 : upd H11 q12 (.lst [.int 3, .int 1000000000]) q12 = some (.lst ([3, 1000000000].map V.int)) := upd_same
      have nq12 : q12 ≠ p := hh11.ne hq12
      generalize upd H11 q12 (.lst [.int 3, .int 1000000000]) = H12 at cq12 hh12 ⊢
      refine ⟨_, rfl, p, _, rfl, hh12, by decide, by decide, fun g13 H13 a13 b13 hh13 k13 => ?_⟩
      obtain ⟨lm, hlm, elm⟩ := at_pick (ns := [3, 1000000000]) (i := g13) a13 b13
      have hlm' : lm = 3 ∨ lm = 1000000000 := by simpa using hlm
      refine ⟨q12, _, _, _, rfl, rfl, SqL.of (k13 _ _ nq12 cq12), elm, p, _, rfl, hh13, by omega, by omega, fun g14 H14 a14 b14 hh14 k14 => ?_⟩
      refine ⟨_, _, rfl, rfl, ?_⟩
      obtain ⟨st, est⟩ : ∃ st : Int, 1 + g14 = st := ⟨_, rfl⟩
      dsimp only [gName]
      rw [est]
      have hst0 : 0 < st := by omega
      have hst1 : st ≤ 1000000000 := by omega
      clear hlm hlm' elm cq12 nq12 k13 hh12 hh13 hh10 hh11 k14
      refine ⟨_, rfl, _, rfl, _, rfl, _, rfl, p, _, rfl, hh14, by omega, by omega, fun g15 H15 a15 b15 hh15 k15 => ?_⟩
      refine ⟨_, rfl, _, _, rfl, rfl, .inl ⟨by omega, by omega⟩, _, rfl, _, rfl, p, _, rfl, hh15, by omega, by omega, fun g16 H16 a16 b16 hh16 k16 => ?_⟩
      have hsd : 0 ≤ g15 * st := Int.mul_nonneg a15 (Int.le_of_lt hst0)
      refine ⟨_, _, rfl, rfl, n, st, g15 * st + g16, rfl, hn0, hn1, hst0, hst1, by omega, fun H17 s17 => ⟨_, rfl, ?_⟩⟩
      have hh17 := hh16.same s17
      clear hsd hh14 hh15 hh16 k15 k16
      dsimp only [gName, tNext]
      refine ⟨_, rfl, _, _, rfl, rfl, ⟨by decide, by decide, by decide⟩, p, _, rfl, hh17, by decide, by decide, fun g18 H18 a18 b18 hh18 k18 => ?_⟩
      rw [e6] at b18
      refine ⟨_, _, rfl, rfl, ?_⟩
      dsimp only [gName]
      obtain ⟨less, eless⟩ : ∃ x : Int, 1 + g18 = x := ⟨_, rfl⟩
      rw [eless]
      refine ⟨_, rfl, _, _, rfl, rfl, ⟨by decide, by decide, by decide⟩, _, rfl, _, _, rfl, rfl, ⟨by decide, by decide, by decide⟩, _, _, rfl, rfl, (by show 3 ≤ sizeLine; decide), fun q19 hq19 => ?_⟩
      set_option simprocs false in dsimp only
      rw [e12]
      have hh19 := hh18.new (o := .lst [.int 1000000000000, .int (less - 1000000000000), .int 0]) hq19
      have cq19 : upd H18 q19 (.lst [.int 1000000000000, .int (less - 1000000000000), .int 0]) q19 = some (.lst ([1000000000000, less - 1000000000000, 0].map V.int)) := upd_same
      have nq19 : q19 ≠ p := hh18.ne hq19
      generalize upd H18 q19 (.lst [.int 1000000000000, .int (less - 1000000000000), .int 0]) = H19 at cq19 hh19 ⊢
      refine ⟨_, rfl, p, _, rfl, hh19, by decide, by decide, fun g20 H20 a20 b20 hh20 k20 => ?_⟩
      obtain ⟨tone, htone, etone⟩ := at_pick (ns := [1000000000000, less - 1000000000000, 0]) (i := g20) a20 b20
      refine ⟨q19, _, _, _, rfl, rfl, SqL.of (k20 _ _ nq19 cq19), etone, _, rfl, n, tone, less, rfl, hn0, hn1, by omega, by omega, fun H21 s21 => ⟨_, rfl, ?_⟩⟩
      have hh21 := hh20.same s21
      clear hh17 hh18 k18 hh19 cq19 nq19 hh20 k20 htone etone
      dsimp only [gName, tNext]
      refine ⟨_, rfl, _, rfl, p, _, rfl, hh21, by omega, by omega, fun g22 H22 a22 b22 hh22 k22 => ?_⟩
      dsimp only [gName]
      obtain ⟨at', rfl⟩ : ∃ x : Nat, g22 = (x : Int) := ⟨g22.toNat, by omega⟩
      refine ⟨_, rfl, _, rfl, _, rfl, _, _, rfl, rfl, p, _, rfl, hh22, by omega, by omega, fun g23 H23 a23 b23 hh23 k23 => ?_⟩
      refine ⟨_, _, rfl, rfl, ?_⟩
      obtain ⟨wd, ewd⟩ : ∃ x : Nat, 1 + g23 = (x : Int) := ⟨(1 + g23).toNat, by omega⟩
      dsimp only [gName]
      rw [ewd]
      refine ⟨_, rfl, _, rfl, _, rfl, _, _, rfl, rfl, ⟨by decide, by decide, by decide⟩, _, _, rfl, rfl, (by show 3 ≤ sizeLine; decide), fun q24 hq24 => ?_⟩
      set_option simprocs false in dsimp only
      rw [e12]
      have hh24 := hh23.new (o := .lst [.int 1, .int (1000000000000 - 1), .int 7]) hq24
      have cq24 : upd H23 q24 (.lst [.int 1, .int (1000000000000 - 1), .int 7]) q24 = some (.lst ([1, 1000000000000 - 1, 7].map V.int)) := upd_same
      have nq24 : q24 ≠ p := hh23.ne hq24
      generalize upd H23 q24 (.lst [.int 1, .int (1000000000000 - 1), .int 7]) = H24 at cq24 hh24 ⊢
      refine ⟨_, rfl, p, _, rfl, hh24, by decide, by decide, fun g25 H25 a25 b25 hh25 k25 => ?_⟩
      obtain ⟨high, hhigh, ehigh⟩ := at_pick (ns := [1, 1000000000000 - 1, 7]) (i := g25) a25 b25
      have hh' : high = 1 ∨ high = 1000000000000 - 1 ∨ high = 7 := by simpa using hhigh
      refine ⟨q24, _, _, _, rfl, rfl, SqL.of (k25 _ _ nq24 cq24), ehigh, n, at', wd, high, rfl, hn1, by omega, by omega, by omega, by omega, fun H26 s26 => ⟨_, rfl, ?_⟩⟩
      exact ⟨_, _, _, _, _, _, _, rfl, hh25.same s26⟩
    · rintro σ H3 ⟨v2, v3, v4, v5, v6, v7, v8, rfl, hh3⟩
      exact q _
end

section
variable {K : PySem.W.Frag} {mg : Str → Option Value}
theorem bl_mk {h : Heap} (X : K.In h) (G : h.Ns mainGlobals mg) (z : ∀ x ∈ bls, PySem.W.nsIn K mainGlobals x = some none) : Bl mg bls := fun x hx => PySem.W.mg_none_of X G (z x hx)
theorem all_mk {l : PySem.W.OpenLaw} {w : World} {h : Heap} {fa f4 : Addr} (X : K.In h) (G : h.Ns mainGlobals mg) (hfa : mg "law" = some (.ref fa)) (B : Bl mg bls)
    (d1 : DefAt K mg "is_whole" sis_whole ["thing"])
    (d2 : DefAt K mg "is_stretch" sis_stretch ["row", "begin", "end"])
    (d3 : DefAt K mg "numbers_of" snumbers_of ["row", "begin", "end"])
    (d4 : DefAt K mg "least_of" sleast_of ["row", "begin", "end"])
    (d5 : DefAt K mg "spread_of" sspread_of ["row", "begin", "end"])
    (d6 : DefAt K mg "widest_begins" swidest_begins ["row", "spread"])
    (d7 : DefG l.prog K mg "many_within" smany_within ["row", "spread"])
    (d8 : DefAt K mg "longest_within" slongest_within ["row", "spread"])
    (d9 : DefAt K mg "reaches" sreaches ["row"])
    (d10 : DefAt K mg "worth_of" sworth_of ["row", "begin", "end"])
    (d11 : DefAt K mg "best_around" sbest_around ["number", "place", "reach"])
    (d12 : DefAt K mg "most_worth" smost_worth ["row"])
    (d13 : DefAt K mg "_law_hand" s_law_hand ["cell", "k"])
    (d14 : DefAt K mg "_law_draw" s_law_draw ["hand", "limit"])
    (d15 : DefAt K mg "_law_cells" s_law_cells ["script", "many"])
    (d16 : DefAt K mg "_law_like_right" s_law_like_right ["many", "one"])
    (d17 : DefAt K mg "_law_steps_right" s_law_steps_right ["many", "step", "spread"])
    (d18 : DefAt K mg "_law_turns_right" s_law_turns_right ["many", "one", "less"])
    (d19 : DefAt K mg "_law_tower_right" s_law_tower_right ["many", "at", "wide", "high"])
    {od4 an4 : Option Addr} {sl4 : Array (Option Value)} {oc4 kV4 dc4 pm4 cd4 ct4 : Value}
    (a4 : PySem.W.nsIn K mainGlobals "law" = some (some (.ref f4))) (l4 : K.lookup f4 = some ⟨oc4, od4, .func (PySem.W.fnOf "law" "law" (defArgs slaw) (defBody slaw) (defScope slaw) .none kV4 dc4 pm4 an4 cd4 ct4), sl4⟩) (c4 : PySem.W.codeIn K cd4 "law" = true) (k4 : PySem.W.keepIn K (.ref f4) = true) :
    ∃ fd : FuncData, (∀ (s : Shared) (v : Value), BindsTo s fd ⟨[v], []⟩ [("script", v)]) ∧ ∀ base : Heap, K.In base → base.Ns mainGlobals mg → FnOk l.prog w K mg base CX0 8 fa fd ["script"] (spLaw K) := by
  have e := hfa.symm.trans (PySem.W.mg_of X G a4)
  cases e
  have F4 := fun_mk (st := slaw) l4 c4 k4
  refine ⟨PySem.W.fnOf "law" "law" (defArgs slaw) (defBody slaw) (defScope slaw) .none kV4 dc4 pm4 an4 cd4 ct4, fun s v => .of_eq rfl, fun base _ _ => ?_⟩
  have w_is_whole := fn_is_whole (P := l.prog) (w := w) (K := K) (mg := mg) (base := base) B d1
  have w_is_stretch := fn_is_stretch (P := l.prog) (w := w) (K := K) (mg := mg) (base := base) B d2 w_is_whole
  have w_numbers_of := fn_numbers_of (P := l.prog) (w := w) (K := K) (mg := mg) (base := base) B d3 w_is_stretch
  have w_least_of := fn_least_of (P := l.prog) (w := w) (K := K) (mg := mg) (base := base) B d4 w_numbers_of
  have w_spread_of := fn_spread_of (P := l.prog) (w := w) (K := K) (mg := mg) (base := base) B d5 w_numbers_of
  have w_widest_begins := fn_widest_begins (P := l.prog) (w := w) (K := K) (mg := mg) (base := base) B d6 w_spread_of
  have w_many_within := fn_many_within (P := l.prog) (w := w) (K := K) (mg := mg) (base := base) B d7 w_widest_begins
  have w_longest_within := fn_longest_within (P := l.prog) (w := w) (K := K) (mg := mg) (base := base) B d8 w_widest_begins
  have w_reaches := fn_reaches (P := l.prog) (w := w) (K := K) (mg := mg) (base := base) B d9
  have w_worth_of := fn_worth_of (P := l.prog) (w := w) (K := K) (mg := mg) (base := base) B d10 w_least_of
  have w_best_around := fn_best_around (P := l.prog) (w := w) (K := K) (mg := mg) (base := base) B d11
  have w_most_worth := fn_most_worth (P := l.prog) (w := w) (K := K) (mg := mg) (base := base) B d12 w_reaches w_best_around
  have w__law_hand := fn_hand (P := l.prog) (w := w) (K := K) (mg := mg) (base := base) d13
  have w__law_draw := fn_draw (P := l.prog) (w := w) (K := K) (mg := mg) (base := base) d14
  have w__law_cells := fn_cells (P := l.prog) (w := w) (K := K) (mg := mg) (base := base) B d15
  have w__law_like_right := fn_like (P := l.prog) (w := w) (K := K) (mg := mg) (base := base) B d16 w_many_within w_longest_within w_worth_of w_most_worth
  have w__law_steps_right := fn_steps (P := l.prog) (w := w) (K := K) (mg := mg) (base := base) B d17 w_many_within w_longest_within
  have w__law_turns_right := fn_turns (P := l.prog) (w := w) (K := K) (mg := mg) (base := base) B d18 w_many_within w_longest_within
  have w__law_tower_right := fn_tower (P := l.prog) (w := w) (K := K) (mg := mg) (base := base) B d19 w_most_worth
  exact ok_law B F4 w__law_cells w__law_hand w__law_draw w__law_like_right w__law_steps_right w__law_turns_right w__law_tower_right
end
theorem walk {l : PySem.W.OpenLaw} {q : Program} {loose : List Str} {XP : (Str → Option Value) → Heap → Prop} {YP : World → Heap → Prop} {d : DefRec} {K : Params → PySem.W.Frag} (hn : l.most = some 63) (hdf : d.params.defaults = []) (hq : PyProof.Rows.recsOf l.prog = PyProof.Rows.recsOf q) (hcl : ∀ w : World, PySem.W.kb_classed (K w.params) = true)
    (hY : ∀ (w : World) (h : Heap), YP w h → (K w.params).In h)
    (F : ∀ (w : World) (mg : Str → Option Value) (fa : Addr) (h : Heap), (K w.params).In h → h.Ns mainGlobals mg → mg d.name = some (.ref fa) →
      ∃ fd : FuncData, (∀ (s : Shared) (u : Value), BindsTo s fd ⟨[u], []⟩ [("script", u)]) ∧ ∀ base : Heap, (K w.params).In base → base.Ns mainGlobals mg → FnOk l.prog w (K w.params) mg base CX0 8 fa fd ["script"] (spLaw (K w.params))) :
    PySem.W.WalkO q loose XP YP l.row.toRowW d [] (fun f vs => PySem.call f vs) :=
  L2.walk_of (n := 63) (k := 8) (x := "script") (CX := fun _ => CX0) (sp := fun w => spLaw (K w.params)) hn (by decide) hdf ⟨rfl, by decide, by decide, rfl⟩ hq hcl hY F (fun _ _ a ns hl _ hS => ⟨a, ns, rfl, hS, hl, fun _ => rfl⟩) fun _ _ _ _ _ z => z


end Law

open PySem PySem.W PyProof.Rows
set_option maxRecDepth 100000 in
set_option maxHeartbeats 0 in
theorem PySem.Challenge.cw_stretchleast_k34_spreads_and_worths_plan_holds : PySem.Challenge.rw_stretchleast_k34_spreads_and_worths_plan.Holds := by
  w_on; o_law; k_head; (case hw => w_witness2)
  k_fill
  refine Law.walk (l := PySem.Challenge.rw_stretchleast_k34_spreads_and_worths_plan) rfl rfl rfl (fun w => by first | rfl | decide +kernel) (fun w h Y => PySem.W.kIn_of Y) ?F
  case F =>
    intro w mg fa h KX G hmg
    refine' Law.all_mk KX G hmg ?B ?d1 ?d2 ?d3 ?d4 ?d5 ?d6 ?d7 ?d8 ?d9 ?d10 ?d11 ?d12 ?d13 ?d14 ?d15 ?d16 ?d17 ?d18 ?d19 ?a4 ?l4 ?c4 ?k4
    (case B => refine Law.bl_mk KX G ?_; intro x hx; simp only [Law.bls, List.mem_cons, List.not_mem_nil, or_false] at hx; rcases hx with rfl | rfl | rfl | rfl | rfl | rfl | rfl | rfl | rfl | rfl | rfl | rfl | rfl | rfl | rfl | rfl | rfl | rfl | rfl | rfl | rfl <;> k_is)
    (case d1 => refine' L2.defAt_mk KX G ?xa1 ?xl1 ?xc1 ?xk1 ?xb1; (case xa1 => k_is); (case xl1 => k_is); (case xc1 => k_is); (case xk1 => k_is); exact fun _ _ _ _ _ _ us hl => match us, hl with | [_], _ => rfl)
    (case d2 => refine' L2.defAt_mk KX G ?xa2 ?xl2 ?xc2 ?xk2 ?xb2; (case xa2 => k_is); (case xl2 => k_is); (case xc2 => k_is); (case xk2 => k_is); exact fun _ _ _ _ _ _ us hl => match us, hl with | [_, _, _], _ => rfl)
    (case d3 => refine' L2.defAt_mk KX G ?xa3 ?xl3 ?xc3 ?xk3 ?xb3; (case xa3 => k_is); (case xl3 => k_is); (case xc3 => k_is); (case xk3 => k_is); exact fun _ _ _ _ _ _ us hl => match us, hl with | [_, _, _], _ => rfl)
    (case d4 => refine' L2.defAt_mk KX G ?xa4 ?xl4 ?xc4 ?xk4 ?xb4; (case xa4 => k_is); (case xl4 => k_is); (case xc4 => k_is); (case xk4 => k_is); exact fun _ _ _ _ _ _ us hl => match us, hl with | [_, _, _], _ => rfl)
    (case d5 => refine' L2.defAt_mk KX G ?xa5 ?xl5 ?xc5 ?xk5 ?xb5; (case xa5 => k_is); (case xl5 => k_is); (case xc5 => k_is); (case xk5 => k_is); exact fun _ _ _ _ _ _ us hl => match us, hl with | [_, _, _], _ => rfl)
    (case d6 => refine' L2.defAt_mk KX G ?xa6 ?xl6 ?xc6 ?xk6 ?xb6; (case xa6 => k_is); (case xl6 => k_is); (case xc6 => k_is); (case xk6 => k_is); exact fun _ _ _ _ _ _ us hl => match us, hl with | [_, _], _ => rfl)
    (case d7 => refine' L2.defG_mk KX G ?xa7 ?xl7 ?xc7 ?xk7 ?xr7 ?xf7 ?xb7; (case xa7 => k_is); (case xl7 => k_is); (case xc7 => k_is); (case xk7 => k_is); (case xr7 => first | rfl | decide +kernel); (case xf7 => first | rfl | decide +kernel); exact fun _ _ _ _ _ _ us hl => match us, hl with | [_, _], _ => rfl)
    (case d8 => refine' L2.defAt_mk KX G ?xa8 ?xl8 ?xc8 ?xk8 ?xb8; (case xa8 => k_is); (case xl8 => k_is); (case xc8 => k_is); (case xk8 => k_is); exact fun _ _ _ _ _ _ us hl => match us, hl with | [_, _], _ => rfl)
    (case d9 => refine' L2.defAt_mk KX G ?xa9 ?xl9 ?xc9 ?xk9 ?xb9; (case xa9 => k_is); (case xl9 => k_is); (case xc9 => k_is); (case xk9 => k_is); exact fun _ _ _ _ _ _ us hl => match us, hl with | [_], _ => rfl)
    (case d10 => refine' L2.defAt_mk KX G ?xa10 ?xl10 ?xc10 ?xk10 ?xb10; (case xa10 => k_is); (case xl10 => k_is); (case xc10 => k_is); (case xk10 => k_is); exact fun _ _ _ _ _ _ us hl => match us, hl with | [_, _, _], _ => rfl)
    (case d11 => refine' L2.defAt_mk KX G ?xa11 ?xl11 ?xc11 ?xk11 ?xb11; (case xa11 => k_is); (case xl11 => k_is); (case xc11 => k_is); (case xk11 => k_is); exact fun _ _ _ _ _ _ us hl => match us, hl with | [_, _, _], _ => rfl)
    (case d12 => refine' L2.defAt_mk KX G ?xa12 ?xl12 ?xc12 ?xk12 ?xb12; (case xa12 => k_is); (case xl12 => k_is); (case xc12 => k_is); (case xk12 => k_is); exact fun _ _ _ _ _ _ us hl => match us, hl with | [_], _ => rfl)
    (case d13 => refine' L2.defAt_mk KX G ?xa13 ?xl13 ?xc13 ?xk13 ?xb13; (case xa13 => k_is); (case xl13 => k_is); (case xc13 => k_is); (case xk13 => k_is); exact fun _ _ _ _ _ _ us hl => match us, hl with | [_, _], _ => rfl)
    (case d14 => refine' L2.defAt_mk KX G ?xa14 ?xl14 ?xc14 ?xk14 ?xb14; (case xa14 => k_is); (case xl14 => k_is); (case xc14 => k_is); (case xk14 => k_is); exact fun _ _ _ _ _ _ us hl => match us, hl with | [_, _], _ => rfl)
    (case d15 => refine' L2.defAt_mk KX G ?xa15 ?xl15 ?xc15 ?xk15 ?xb15; (case xa15 => k_is); (case xl15 => k_is); (case xc15 => k_is); (case xk15 => k_is); exact fun _ _ _ _ _ _ us hl => match us, hl with | [_, _], _ => rfl)
    (case d16 => refine' L2.defAt_mk KX G ?xa16 ?xl16 ?xc16 ?xk16 ?xb16; (case xa16 => k_is); (case xl16 => k_is); (case xc16 => k_is); (case xk16 => k_is); exact fun _ _ _ _ _ _ us hl => match us, hl with | [_, _], _ => rfl)
    (case d17 => refine' L2.defAt_mk KX G ?xa17 ?xl17 ?xc17 ?xk17 ?xb17; (case xa17 => k_is); (case xl17 => k_is); (case xc17 => k_is); (case xk17 => k_is); exact fun _ _ _ _ _ _ us hl => match us, hl with | [_, _, _], _ => rfl)
    (case d18 => refine' L2.defAt_mk KX G ?xa18 ?xl18 ?xc18 ?xk18 ?xb18; (case xa18 => k_is); (case xl18 => k_is); (case xc18 => k_is); (case xk18 => k_is); exact fun _ _ _ _ _ _ us hl => match us, hl with | [_, _, _], _ => rfl)
    (case d19 => refine' L2.defAt_mk KX G ?xa19 ?xl19 ?xc19 ?xk19 ?xb19; (case xa19 => k_is); (case xl19 => k_is); (case xc19 => k_is); (case xk19 => k_is); exact fun _ _ _ _ _ _ us hl => match us, hl with | [_, _, _, _], _ => rfl)
    (case a4 => k_is); (case l4 => k_is); (case c4 => k_is); (case k4 => k_is)
#print axioms PySem.Challenge.cw_stretchleast_k34_spreads_and_worths_plan_holds


