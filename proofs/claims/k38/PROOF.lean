import PyProof.Rows.All
import Wide.All
import OpenK.AllK
import Wide.FinOn
import PyProof.EqAt
import PyProof.EqKinds
import PyProof.TupleCall
import KE.BitLaws
import PyProof.Rows.SortShellAny
import PyProof.ReprReads
import PyProof.WalksEnum
import KE.KRevSl
import KE.KRegrown
import PyProof.GenCompD
import PyProof.Rows.SumGenA
import PyProof.Rows.ZipGen
import KE.KItemsList
import PyProof.ListRange
import KE.KSortTupUse
import PyProof.WalkInts
import PyProof.Draws
import PyProof.DictCompW
import PyProof.Rows.CompDC
import PySem.Challenge.RW_stretchleast_k38_lowest_places_above
set_option Elab.async false
set_option linter.all false
set_option maxRecDepth 100000
namespace L2
open PySem PySem.Spec PyProof.Rows

/-- a key: an int or a str -/
abbrev Key := Sum Int Str
def keyIs : Key → Value → Bool
  | .inl k, v => Value.isInt k v
  | .inr x, v => Value.isStrOf x v
def keyH (w : World) : Key → Int
  | .inl k => hashInt k
  | .inr x => hashStr w x
theorem keyIs_shape : ∀ {k : Key} {v : Value}, keyIs k v = true → (∃ i t, k = Sum.inl i ∧ v = Value.int i t) ∨ (∃ x t, k = Sum.inr x ∧ v = Value.str x t)
  | .inl i, v, h => by
    obtain ⟨t, e⟩ := Value.isInt_shape (k := i) (v := v) h
    exact .inl ⟨i, t, rfl, e⟩
  | .inr x, v, h => by
    obtain ⟨t, e⟩ := Value.isStrOf_shape (x := x) (v := v) h
    exact .inr ⟨x, t, rfl, e⟩
theorem keyIs_int (i : Int) (t : Tok) : keyIs (.inl i) (.int i t) = true := by simp [keyIs, Value.isInt]
theorem key_ll (a b : Int) : decide ((Sum.inl a : Key) = Sum.inl b) = (a == b) := by
  by_cases e : a = b
  · subst e; simp
  · have h : ¬ (Sum.inl a : Key) = Sum.inl b := fun q => e (Sum.inl.inj q)
    rw [decide_eq_false h]
    exact (beq_eq_false_iff_ne.mpr e).symm
theorem key_rr (a b : Str) : decide ((Sum.inr a : Key) = Sum.inr b) = decide (a = b) := by
  by_cases e : a = b
  · subst e; simp
  · have h : ¬ (Sum.inr a : Key) = Sum.inr b := fun q => e (Sum.inr.inj q)
    rw [decide_eq_false h, decide_eq_false e]
theorem key_lr (a : Int) (b : Str) : decide ((Sum.inl a : Key) = Sum.inr b) = false := decide_eq_false (fun q => nomatch q)
theorem key_rl (a : Str) (b : Int) : decide ((Sum.inr a : Key) = Sum.inl b) = false := decide_eq_false (fun q => nomatch q)

def mixKind (prog : Program) (w : World) : PySem.KeyKind prog w Key where
  is := keyIs
  hash := keyH w
  inj := fun v a b ha hb => by
    rcases keyIs_shape ha with ⟨i, t, rfl, rfl⟩ | ⟨x, t, rfl, rfl⟩
    · rcases keyIs_shape hb with ⟨j, u, rfl, e⟩ | ⟨y, u, rfl, e⟩
      · injection e with e1 _; rw [e1]
      · exact nomatch e
    · rcases keyIs_shape hb with ⟨j, u, rfl, e⟩ | ⟨y, u, rfl, e⟩
      · exact nomatch e
      · injection e with e1 _; rw [e1]
  byValue := fun k v h => by
    rcases keyIs_shape h with ⟨i, t, rfl, rfl⟩ | ⟨x, t, rfl, rfl⟩ <;> rfl
  pyHash := fun hv h => by
    rcases keyIs_shape hv with ⟨i, t, rfl, rfl⟩ | ⟨x, t, rfl, rfl⟩
    · exact wpAny_pyHash_int h
    · exact wpAny_pyHash_str h
  eqBool := fun hu hv h => by
    rcases keyIs_shape hu with ⟨i, t, rfl, rfl⟩ | ⟨x, t, rfl, rfl⟩
    · rcases keyIs_shape hv with ⟨j, u, rfl, rfl⟩ | ⟨y, u, rfl, rfl⟩
      · rw [key_ll] at h; exact wpAny_eqBool_int h
      · rw [key_lr] at h; exact SeqAt.EqAt.int_str i t y u _ _ _ _ h
    · rcases keyIs_shape hv with ⟨j, u, rfl, rfl⟩ | ⟨y, u, rfl, rfl⟩
      · rw [key_rl] at h; exact SeqAt.EqAt.str_int x t j u _ _ _ _ h
      · rw [key_rr] at h; exact wpAny_eqBool_str h
  «strs» := fun k x t v h => by
    rcases keyIs_shape h with ⟨i, u, rfl, e⟩ | ⟨y, u, rfl, e⟩
    · exact nomatch e
    · injection e with e1 _
      subst e1
      cases v <;> rfl

theorem mixKind_int (prog : Program) (w : World) (i : Int) (t : Tok) : (mixKind prog w).is (.inl i) (.int i t) = true := keyIs_int i t
end L2

namespace L2
open PySem PySem.Spec PyProof.Rows

/-- a value, without the heap -/
inductive V where
  | non | bl (b : Bool) | int (i : Int) | str (x : Str) | byt (b : Array UInt8) | flt (b : UInt64) | ref (a : Addr) | ty (n : String)
  deriving DecidableEq

def RelV : V → Value → Prop
  | .non, u => u = Value.none
  | .bl b, u => u = Value.bool b
  | .int i, u => ∃ t, u = Value.int i t
  | .str x, u => ∃ t, u = Value.str x t
  | .byt b, u => ∃ t, u = Value.bytes b t
  | .flt b, u => ∃ t, u = Value.float b t
  | .ref a, u => u = Value.ref a
  | .ty n, u => u = Value.type n

abbrev Vals : List V → List Value → Prop := Paired RelV
theorem Vals.length {xs : List V} {us : List Value} (r : Vals xs us) : xs.length = us.length := Paired.length r
theorem Vals.get : ∀ {xs : List V} {us : List Value} {i : Nat} {x : V}, Vals xs us → xs[i]? = some x → ∃ u, us[i]? = some u ∧ RelV x u
  | _, _, _, _, .nil, e => by simp at e
  | _, _, 0, _, .cons r _, e => by simp at e; subst e; exact ⟨_, rfl, r⟩
  | _, _, i + 1, x, .cons _ t, e => by
    obtain ⟨u, h1, h2⟩ := Vals.get (i := i) (x := x) t (by simpa using e)
    exact ⟨u, by simpa using h1, h2⟩
theorem Vals.set {x : V} {u : Value} (r : RelV x u) : ∀ {xs : List V} {us : List Value} (i : Nat), Vals xs us → Vals (xs.set i x) (us.set i u)
  | _, _, _, .nil => .nil
  | _, _, 0, .cons _ t => .cons r t
  | _, _, i + 1, .cons q t => .cons q (Vals.set r i t)
theorem Vals.append : ∀ {xs ys : List V} {us ws : List Value}, Vals xs us → Vals ys ws → Vals (xs ++ ys) (us ++ ws)
  | _, _, _, _, .nil, s => s
  | _, _, _, _, .cons r t, s => .cons r (Vals.append t s)
theorem Vals.take : ∀ {xs : List V} {us : List Value} (n : Nat), Vals xs us → Vals (xs.take n) (us.take n)
  | _, _, 0, _ => .nil
  | _, _, _ + 1, .nil => .nil
  | _, _, n + 1, .cons r t => .cons r (Vals.take n t)
theorem Vals.drop : ∀ {xs : List V} {us : List Value} (n : Nat), Vals xs us → Vals (xs.drop n) (us.drop n)
  | _, _, 0, r => r
  | _, _, _ + 1, .nil => .nil
  | _, _, n + 1, .cons _ t => Vals.drop n t
def RelO : Option V → Option Value → Prop
  | some v, some u => RelV v u
  | none, none => True
  | _, _ => False
def KV {κ : Type} : List (κ × V) → List (κ × Value) → Prop := Paired fun (p : κ × V) (q : κ × Value) => p.1 = q.1 ∧ RelV p.2 q.2

/-- a key of a dict (00_mix): an int or a text -/
def kV : Key → V
  | .inl i => .int i
  | .inr x => .str x

/-- what stands at a tracked address -/
inductive HO where
  /-- a list -/
  | lst (xs : List V)
  /-- a tuple (never changes) -/
  | tup (xs : List V)
  /-- a dict whose keys are ints and texts; one whose keys are tuples of ints and texts (the empty one is both) -/
  | dK (kvs : List (Key × V)) | dT (kvs : List (List Key × V))
  /-- a set of ints: its members, its size -/
  | set (S : Int → Bool) (n : Nat)
  /-- an instance of the class at C, its dict at dx, its attributes -/
  | ins (C dx : Addr) (fs : List (Str × V))
  /-- the dict of the instance at x -/
  | own (x : Addr)
  /-- the dict of an exception -/
  | xd (fs : List (Str × V))
  /-- a bound method, f of x -/
  | met (f x : Addr)
  /-- a range object lo, lo + 1, .. below hi -/
  | rng (lo hi : Int)
  /-- a thing that is known to the object (the script; a dict while a loop walks it): read, never written while it is so -/
  | frz (o : Obj) (u : HO)
  /-- a code object's table -/
  | tbl (ps : Array Value)
  /-- any other thing, by what is true of its one object (a def of one's own: SetO a S n := HO.ext fun h => ..) -/
  | ext (φ : Heap → Prop)

abbrev Hp := Addr → Option HO
def upd (H : Hp) (a : Addr) (o : HO) : Hp := fun b => if b = a then some o else H b
theorem upd_same {H : Hp} {a : Addr} {o : HO} : upd H a o a = some o := by unfold upd; rw [if_pos rfl]
theorem upd_ne {H : Hp} {a b : Addr} {o : HO} (h : b ≠ a) : upd H a o b = H b := by unfold upd; rw [if_neg h]
theorem ne_of_none {H : Hp} {a b : Addr} {o : HO} (h : H a = some o) (h' : H b = none) : a ≠ b := by
  intro e; subst e; rw [h] at h'; cases h'

section
variable (P : Program) (w : World)
def ObjOk (H : Hp) (h : Heap) (a : Addr) : HO → Prop
  | .lst xs => xs.length ≤ sizeLine ∧ ∃ (its : List Value) (n : Nat), Vals xs its ∧ h.get? a = some { cls := .type "list", data := .seq its.toArray n }
  | .tup xs => xs.length ≤ sizeLine ∧ ∃ its : List Value, Vals xs its ∧ IsTup h a its.toArray
  | .dK kvs => kvs.length ≤ sizeLine ∧ (a == sysModules) = false ∧ ∃ vs, KV kvs vs ∧ h.DictOf (mixKind P w) a vs
  | .dT kvs => kvs.length ≤ sizeLine ∧ (a == sysModules) = false ∧ ∃ xs : List (List Key × Addr × Value),
      Paired (fun (p : List Key × V) (q : List Key × Addr × Value) => p.1 = q.1 ∧ H q.2.1 = some (.tup (p.1.map kV)) ∧ RelV p.2 q.2.2) kvs xs ∧
      ∃ o es ep, h.get? a = some o ∧ o.ExactDict ∧ o.data = .dict es ep ∧ es.toList = xs.map (entryOfKey (tupleKind (mixKind P w))) ∧ (xs.map (·.1)).Nodup
  | .set S n => h.SetOf (intKind P w) a S n
  | .ins C dx fs => H dx = some (.own a) ∧ fs.length ≤ 1000 ∧ dx ≠ a ∧ h.get? a = some (PySem.W.instObj C dx) ∧
      ∃ mA, h.Ns1 dx mA ∧ (∀ f, RelO (fs.lookup f) (mA f)) ∧ PySem.Within mA (fs.map (·.1))
  | .own _ => ∃ o, h.get? a = some o
  | .xd fs => ∃ mA, h.Ns1 a mA ∧ ∀ f, RelO (fs.lookup f) (mA f)
  | .rng lo hi => ∃ t u v, h.get? a = some { cls := .type "range", data := .fields #[.int lo t, .int hi u, .int 1 v] }
  | .frz o u => h.get? a = some o ∧ ObjOk H h a u
  | .tbl ps => h.get? a = some { cls := .none, data := .fields ps } ∧ TriplesOk ps.toList
  | .met f x => h.get? a = some (PySem.W.methodObj (.ref f) (.ref x))
  | .ext φ => φ h ∧ (∃ o, h.get? a = some o) ∧ ∀ h1 h2 : Heap, φ h1 → (∀ o, h1.get? a = some o → h2.get? a = some o) → φ h2
/-- the abstract heap is held -/
def HOk (H : Hp) (h : Heap) : Prop := ∀ a o, H a = some o → ObjOk P w H h a o
end

section
variable {P : Program} {w : World} {H H' : Hp} {h h' : Heap} {a : Addr} {o : HO}
theorem ObjOk.lt (x : ObjOk P w H h a o) : a < h.objs.size := by
  cases o with
  | lst xs => obtain ⟨_, _, _, _, e⟩ := x; exact Heap.lt_size e
  | tup xs => obtain ⟨_, _, _, p⟩ := x; exact p.lt
  | dK kvs => obtain ⟨_, _, _, _, o, _, _, e, _⟩ := x; exact Heap.lt_size e
  | dT kvs => obtain ⟨_, _, _, _, o, _, _, e, _⟩ := x; exact Heap.lt_size e
  | set S n => obtain ⟨o, _, _, _, e, _⟩ := x; exact Heap.lt_size e
  | ins C dx fs => obtain ⟨_, _, _, e, _⟩ := x; exact Heap.lt_size e
  | own y => obtain ⟨_, e⟩ := x; exact Heap.lt_size e
  | xd fs => obtain ⟨_, ⟨_, _, _, e, _⟩, _⟩ := x; exact Heap.lt_size e
  | rng lo hi => obtain ⟨_, _, _, e⟩ := x; exact Heap.lt_size e
  | frz ob u => obtain ⟨e, _⟩ := x; exact Heap.lt_size e
  | tbl ps => exact Heap.lt_size (show h.get? a = some _ from (show _ ∧ _ from x).1)
  | met f y => exact Heap.lt_size (show h.get? a = some _ from x)
  | ext φ => obtain ⟨_, ⟨_, e⟩, _⟩ := x; exact Heap.lt_size e
theorem Paired.mapP {α β : Type} {F G : α → β → Prop} : ∀ {l₁ : List α} {l₂ : List β}, Paired F l₁ l₂ → (∀ a b, F a b → G a b) → Paired G l₁ l₂
  | _, _, .nil, _ => .nil
  | _, _, .cons r t, f => .cons (f _ _ r) (Paired.mapP t f)
/-- what an object's description leans on: its own object, its own dict, the tuples -/
theorem ObjOk.stay (x : ObjOk P w H h a o) (k : ∀ b u, (b = a ∨ H b = some (.own a)) → h.get? b = some u → h'.get? b = some u)
    (ho : ∀ b, H b = some (.own a) → H' b = some (.own a)) (ht : ∀ b xs, H b = some (.tup xs) → H' b = some (.tup xs)) : ObjOk P w H' h' a o := by
  induction o with
  | lst xs => obtain ⟨z, its, n, r, e⟩ := x; exact ⟨z, its, n, r, k _ _ (.inl rfl) e⟩
  | tup xs => obtain ⟨z, its, r, ob, e, c⟩ := x; exact ⟨z, its, r, ob, k _ _ (.inl rfl) e, c⟩
  | dK kvs => obtain ⟨z, y, vs, r, ob, es, ep, e, c⟩ := x; exact ⟨z, y, vs, r, ob, es, ep, k _ _ (.inl rfl) e, c⟩
  | dT kvs =>
    obtain ⟨z, y, xs, r, ob, es, ep, e, c⟩ := x
    exact ⟨z, y, xs, Paired.mapP r fun p q z => ⟨z.1, ht _ _ z.2.1, z.2.2⟩, ob, es, ep, k _ _ (.inl rfl) e, c⟩
  | set S n => obtain ⟨ob, es, ep, t, e, c⟩ := x; exact ⟨ob, es, ep, t, k _ _ (.inl rfl) e, c⟩
  | ins C dx fs =>
    obtain ⟨d, z, ne, e, mA, ⟨od, es, ep, e2, c⟩, r⟩ := x
    exact ⟨ho _ d, z, ne, k _ _ (.inl rfl) e, mA, ⟨od, es, ep, k _ _ (.inr d) e2, c⟩, r⟩
  | own y => obtain ⟨ob, e⟩ := x; exact ⟨ob, k _ _ (.inl rfl) e⟩
  | xd fs => obtain ⟨mA, ⟨od, es, ep, e, c⟩, r⟩ := x; exact ⟨mA, ⟨od, es, ep, k _ _ (.inl rfl) e, c⟩, r⟩
  | rng lo hi => obtain ⟨t, u, v, e⟩ := x; exact ⟨t, u, v, k _ _ (.inl rfl) e⟩
  | frz ob u ih => obtain ⟨e, q⟩ := x; exact ⟨k _ _ (.inl rfl) e, ih q⟩
  | tbl ps =>
    have e : h.get? a = some { cls := .none, data := .fields ps } ∧ TriplesOk ps.toList := x
    show h'.get? a = some { cls := .none, data := .fields ps } ∧ TriplesOk ps.toList
    exact ⟨k a _ (.inl rfl) e.1, e.2⟩
  | met f y =>
    have e : h.get? a = some (PySem.W.methodObj (.ref f) (.ref y)) := x
    show h'.get? a = some (PySem.W.methodObj (.ref f) (.ref y))
    exact k a _ (.inl rfl) e
  | ext φ => obtain ⟨p, ⟨o, e⟩, st⟩ := x; exact ⟨st _ _ p fun o q => k _ _ (.inl rfl) q, ⟨o, k _ _ (.inl rfl) e⟩, st⟩
theorem HOk.lt (x : HOk P w H h) (e : H a = some o) : a < h.objs.size := (x a o e).lt
theorem HOk.fresh (x : HOk P w H h) (e : h.objs.size ≤ a) : H a = none := by
  cases q : H a with
  | none => rfl
  | some u => exact absurd (Nat.lt_of_lt_of_le (x.lt q) e) (Nat.lt_irrefl _)
/-- every object of the heap is kept -/
theorem HOk.kept (x : HOk P w H h) (k : ∀ b u, h.get? b = some u → h'.get? b = some u) : HOk P w H h' := fun a o e =>
  (x a o e).stay (fun b u _ q => k b u q) (fun _ q => q) fun _ _ q => q
/-- a new object is laid and tracked -/
theorem HOk.laid (x : HOk P w H h) (k : ∀ b u, h.get? b = some u → h'.get? b = some u) (hp : h.objs.size ≤ a) (new : ObjOk P w (upd H a o) h' a o) : HOk P w (upd H a o) h' := fun b u e => by
  have hn := x.fresh hp
  by_cases hb : b = a
  · subst hb; rw [upd_same] at e; cases e; exact new
  · rw [upd_ne hb] at e
    exact (x b u e).stay (fun c v _ q => k c v q) (fun c q => by rw [upd_ne (ne_of_none q hn)]; exact q) fun c xs q => by rw [upd_ne (ne_of_none q hn)]; exact q
end

/-- what may be read as u: it is u, or a known u -/
def Rd (H : Hp) (a : Addr) (u : HO) : Prop := H a = some u ∨ ∃ o, H a = some (.frz o u)
theorem Rd.of {H : Hp} {a : Addr} {u : HO} (h : H a = some u) : Rd H a u := .inl h
theorem Rd.ok {P : Program} {w : World} {H : Hp} {h : Heap} {a : Addr} {u : HO} (r : Rd H a u) (x : HOk P w H h) : ObjOk P w H h a u := by
  rcases r with r | ⟨o, r⟩
  · exact x a u r
  · obtain ⟨_, q⟩ := x a _ r
    exact q
/-- what may be written -/
def Mut : Option HO → Prop
  | some (.lst _) => True
  | some (.dK _) => True
  | some (.dT _) => True
  | some (.set _ _) => True
  | some (.ins _ _ _) => True
  | some (.ext _) => True
  | _ => False
section
variable {P : Program} {w : World} {H : Hp} {h h' : Heap} {x e : Addr} {o' : HO}
/-- the object at e is changed: x itself, or the dict of the instance x -/
theorem HOk.write (ok : HOk P w H h) (mu : Mut (H x)) (he : e = x ∨ H e = some (.own x)) (k : ∀ b u, b ≠ e → h.get? b = some u → h'.get? b = some u) (heo : ∃ u, h'.get? e = some u)
    (new : ObjOk P w (upd H x o') h' x o') : HOk P w (upd H x o') h' := fun b u q => by
  have nown : ∀ c y, H c = some (.own y) → c ≠ x := fun c y r z => by subst z; rw [r] at mu; exact mu
  have ntup : ∀ c xs, H c = some (.tup xs) → c ≠ x := fun c xs r z => by subst z; rw [r] at mu; exact mu
  by_cases hb : b = x
  · subst hb; rw [upd_same] at q; cases q; exact new
  · rw [upd_ne hb] at q
    by_cases hbe : b = e
    · have q' : H b = some (.own x) := by
        rcases he with z | z
        · exact absurd (hbe.trans z) hb
        · rw [hbe]; exact z
      rw [q] at q'; cases q'
      obtain ⟨v, hv⟩ := heo
      exact ⟨v, by rw [hbe]; exact hv⟩
    · refine (ok b u q).stay (fun c v hc r => k c v ?_ r) (fun c r => by rw [upd_ne (nown c b r)]; exact r) fun c xs r => by rw [upd_ne (ntup c xs r)]; exact r
      rcases hc with rfl | hc
      · exact hbe
      · rintro rfl
        rcases he with z | z
        · exact nown c b hc z
        · rw [hc] at z; cases z; exact hb rfl
end

structure Un (fs ex : List Addr) (H H' : Hp) (h h' : Heap) : Prop where
  keep : ∀ b o, h.get? b = some o → H b = none → b ∉ fs → b ∉ ex → h'.get? b = some o
  slot : ∀ b o, h.get? b = some o → H b = none → b ∈ fs → b ∉ ex → ∃ sl, h'.get? b = some { o with slots := sl }
  free : ∀ b o, h.get? b = some o → H b = none → b ∉ ex → H' b = none
  there : ∀ b o, h.get? b = some o → b ∉ ex → ∃ o', h'.get? b = some o'
  tups : ∀ b xs, H b = some (.tup xs) → H' b = some (.tup xs)
  frzs : ∀ b o u, H b = some (.frz o u) → H' b = some (.frz o u)
  tbls : ∀ b ps, H b = some (.tbl ps) → ∃ more, H' b = some (.tbl (ps ++ more))
section
variable {fs fs' ex ex' : List Addr} {H H1 H2 : Hp} {h h1 h2 h' : Heap} {a x e : Addr} {o : HO}
theorem Un.any (u : Un fs ex H H1 h h1) {b : Addr} {ob : Obj} (q : h.get? b = some ob) (n : H b = none) (hx : b ∉ ex) : ∃ sl, h1.get? b = some { ob with slots := sl } := by
  by_cases hb : b ∈ fs
  · exact u.slot b ob q n hb hx
  · exact ⟨ob.slots, u.keep b ob q n hb hx⟩
theorem Un.trans (a : Un fs ex H H1 h h1) (b : Un fs ex H1 H2 h1 h2) : Un fs ex H H2 h h2 where
  keep := fun c ob q n hc hx => b.keep c ob (a.keep c ob q n hc hx) (a.free c ob q n hx) hc hx
  slot := fun c ob q n hc hx => by
    obtain ⟨sl, e1⟩ := a.slot c ob q n hc hx
    obtain ⟨sl', e2⟩ := b.slot c _ e1 (a.free c ob q n hx) hc hx
    exact ⟨sl', e2⟩
  free := fun c ob q n hx => by
    obtain ⟨o', e1⟩ := a.there c ob q hx
    exact b.free c o' e1 (a.free c ob q n hx) hx
  there := fun c ob q hx => by
    obtain ⟨o', e1⟩ := a.there c ob q hx
    exact b.there c o' e1 hx
  tups := fun c xs q => b.tups c xs (a.tups c xs q)
  frzs := fun c ob xs q => b.frzs c ob xs (a.frzs c ob xs q)
  tbls := fun c ps q => by
    obtain ⟨m1, e1⟩ := a.tbls c ps q
    obtain ⟨m2, e2⟩ := b.tbls c _ e1
    exact ⟨m1 ++ m2, by rw [e2, Array.append_assoc]⟩
theorem Un.kept (k : ∀ b u, h.get? b = some u → h'.get? b = some u) : Un fs ex H H h h' :=
  ⟨fun b ob q _ _ _ => k b ob q, fun b ob q _ _ _ => ⟨ob.slots, k b ob q⟩, fun _ _ _ n _ => n, fun b ob q _ => ⟨ob, k b ob q⟩, fun _ _ q => q, fun _ _ _ q => q, fun _ ps q => ⟨#[], by rw [q]; simp⟩⟩
theorem Un.refl : Un fs ex H H h h := Un.kept fun _ _ q => q
theorem Un.laid (k : ∀ b u, h.get? b = some u → h'.get? b = some u) (hp : h.objs.size ≤ a) (hn : H a = none) : Un fs ex H (upd H a o) h h' where
  keep := fun b u q _ _ _ => k b u q
  slot := fun b u q _ _ _ => ⟨u.slots, k b u q⟩
  free := fun b u q n _ => by rw [upd_ne (Nat.ne_of_lt (Nat.lt_of_lt_of_le (Heap.lt_size q) hp))]; exact n
  there := fun b u q _ => ⟨u, k b u q⟩
  tups := fun b xs q => by rw [upd_ne (ne_of_none q hn)]; exact q
  frzs := fun b u xs q => by rw [upd_ne (ne_of_none q hn)]; exact q
  tbls := fun b ps q => ⟨#[], by rw [upd_ne (ne_of_none q hn), q]; simp⟩
theorem Un.write (mu : Mut (H x)) (he : e = x ∨ H e = some (.own x)) (k : ∀ b u, b ≠ e → h.get? b = some u → h'.get? b = some u) (heo : ∃ u, h'.get? e = some u) : Un fs ex H (upd H x o) h h' := by
  have hx : ∀ b, H b = none → b ≠ x := fun b n z => by subst z; rw [n] at mu; exact mu
  have hb : ∀ b, H b = none → b ≠ e := fun b n z => by
    subst z
    rcases he with r | r
    · exact hx b n r
    · rw [n] at r; cases r
  have hm : ∀ b u, H b = some u → ¬ Mut (some u) → b ≠ x := fun b u q nm z => by subst z; rw [q] at mu; exact nm mu
  refine ⟨fun b u q n _ _ => k b u (hb b n) q, fun b u q n _ _ => ⟨u.slots, k b u (hb b n) q⟩, fun b u q n _ => by rw [upd_ne (hx b n)]; exact n, fun b u q _ => ?_,
    fun b xs q => by rw [upd_ne (hm b _ q fun z => z)]; exact q, fun b u xs q => by rw [upd_ne (hm b _ q fun z => z)]; exact q, fun b ps q => ⟨#[], by rw [upd_ne (hm b _ q fun z => z), q]; simp⟩⟩
  by_cases hbe : b = e
  · subst hbe; exact heo
  · exact ⟨u, k b u hbe q⟩
theorem Un.mono (u : Un fs ex H H1 h h1) (hs : ∀ b ∈ fs, b ∈ fs') (hx : ∀ b ∈ ex, b ∈ ex') : Un fs' ex' H H1 h h1 :=
  ⟨fun b ob q n hb he => u.keep b ob q n (fun z => hb (hs b z)) fun z => he (hx b z), fun _ _ q n _ he => u.any q n fun z => he (hx _ z), fun b ob q n he => u.free b ob q n fun z => he (hx b z), fun b ob q he => u.there b ob q fun z => he (hx b z), u.tups, u.frzs, u.tbls⟩
end

def trk (h : Heap) (H : Hp) : List Addr := (List.range h.objs.size).filter fun a => (H a).isSome
def hidT (h : Heap) (H : Hp) : Heap := PySem.W.hideAll h (trk h H)
theorem hidT_size (h : Heap) (H : Hp) : (hidT h H).objs.size = h.objs.size := PySem.W.hideAll_size _ _
theorem hidT_get {h : Heap} {H : Hp} {b : Addr} {o : Obj} (e : h.get? b = some o) (n : H b = none) : (hidT h H).get? b = some o :=
  PySem.W.hideAll_get _ e fun hm => by
    have q : (H b).isSome = true := (List.mem_filter.mp hm).2
    rw [n] at q; simp at q
theorem of_hidT {h : Heap} {H : Hp} {b : Addr} {o : Obj} (e : (hidT h H).get? b = some o) : h.get? b = some o ∧ H b = none := by
  have e' : h.get? b = some o := PySem.W.of_hideAll (trk h H) e
  refine ⟨e', ?_⟩
  cases q : H b with
  | none => rfl
  | some x =>
    have hm : b ∈ trk h H := List.mem_filter.mpr ⟨List.mem_range.mpr (Heap.lt_size e'), by simp [q]⟩
    have z : (hidT h H).get? b = none := PySem.W.hideAll_none (trk h H) hm
    rw [z] at e; cases e

def allNews (g h : Heap) (L : Addr) : List (Addr × Obj) := (List.range h.objs.size).filterMap fun a => if a = L ∨ (g.get? a).isSome = true then none else (h.get? a).map fun o => (a, o)
def rest (g h : Heap) (L d : Addr) : List (Addr × Obj) := (allNews g h L).filter fun p => decide (p.1 ≠ d)
end L2

namespace L2
open PySem PySem.Spec PyProof.Rows

/-- the module's facts, over the base: the heap at the law's entry without what is tracked there -/
structure Mod (K : PySem.W.Frag) (mg : Str → Option Value) (base : Heap) : Prop where
  kin : K.In base
  glob : base.Ns mainGlobals mg
  blt : ∃ mb, base.Ns builtinsNs mb ∧ ∀ x : Str, x ≠ "__name__" → mb x = bootBuiltins x
  nolimit : base.NoLimit
  bmod : ∃ bm ob, BMod base mainGlobals mg bm ob

/-- the table of the code object of a def of the module's top -/
def TabOf (P : Program) (K : PySem.W.Frag) (mg : Str → Option Value) (Pt : Addr) : Prop :=
  ∃ d ∈ recsOf P, ∃ (f : Addr) (o : Obj) (fd : FuncData) (c : Addr) (oc : Obj) (vs : Array Value), mg d.name = some (.ref f) ∧ K.lookup f = some o ∧ o.data = .func fd ∧ fd.code = .ref c ∧ K.lookup c = some oc ∧ oc.data = .fields vs ∧ vs.getD 11 .none = .ref Pt
/-- all those tables are tracked -/
def Tabs (P : Program) (K : PySem.W.Frag) (mg : Str → Option Value) (H : Hp) : Prop := ∀ Pt, TabOf P K mg Pt → ∃ ps, H Pt = some (.tbl ps)
theorem Tabs.un {P : Program} {K : PySem.W.Frag} {mg : Str → Option Value} {fs ex : List Addr} {H H' : Hp} {h h' : Heap} (T : Tabs P K mg H) (u : Un fs ex H H' h h') : Tabs P K mg H' := fun Pt t => by
  obtain ⟨ps, e⟩ := T Pt t
  obtain ⟨more, e'⟩ := u.tbls Pt ps e
  exact ⟨_, e'⟩

/-- the context: a def's body (or a comprehension's block) running. base: fixed through the whole law; s₀, H₀: the entry; outer: the frames whose slots others may change (a def's callers); stack: all frames that run;
   ex: iterators that were made ahead of the entry and are walked here (a comprehension's); fn: the names whose cells were made at the entry (a def: all; a comprehension's block: its own); calm: not within an except suite; pn: pins that every state bears; xe: what is wanted of an exception that leaves the code -/
structure Cx where
  prog : Program
  w : World
  K : PySem.W.Frag
  mg : Str → Option Value
  base : Heap
  A : Around
  N : List Str
  s_0 : Shared
  H_0 : Hp
  env : Env
  outer : List Env
  stack : List Env
  ex : List Addr
  fn : Str → Bool
  calm : Bool
  pn : List (Addr × Obj)
  xe : Value → Shared → Prop
/-- the callers' frames -/
def frs (l : List Env) : List Addr := l.filterMap (·.frame)
abbrev Cx.fs (X : Cx) : List Addr := frs X.outer

def Vis (sc : Scope) (x : Str) : Prop := sc.names.lookup x = some .local ∨ sc.names.lookup x = some .cell ∨ sc.names.lookup x = some .free
def Loc (sc : Scope) (x : Str) : Prop := sc.names.lookup x = some .local ∨ sc.names.lookup x = some .cell
def Look (env : Env) (h : Heap) (m : Str → Option Value) (x : Str) (u : Value) : Prop :=
  (env.kindOf x = some .local ∧ m x = some u) ∨ ((env.kindOf x = some .cell ∨ env.kindOf x = some .free) ∧ ∃ c, env.cells.lookup x = some c ∧ h.IsCell c (some u))

structure Cx.Ok (X : Cx) : Prop where
  mod : Mod X.K X.mg X.base
  kind : X.env.scope.kind = .function
  glob : X.env.globals = mainGlobals
  blt : X.env.builtins = builtinsNs
  above : X.s_0.heap.objs.size ≤ X.env.locals
  inj : ∀ x y c, X.env.cells.lookup x = some c → X.env.cells.lookup y = some c → x = y
  has : ∀ x, (X.env.kindOf x = some .cell ∨ X.env.kindOf x = some .free) → ∃ c, X.env.cells.lookup x = some c
  cab : ∀ x c, X.fn x = true → X.env.cells.lookup x = some c → X.s_0.heap.objs.size ≤ c
  hd : X.calm = true → X.A.handled = none
  frames : X.A.frames = some X.stack
  stk : X.stack = X.outer ∨ (X.stack = X.env :: X.outer ∧ X.env.frame = some X.env.locals)
  exf : ∀ b ∈ X.ex, b ≠ X.env.locals ∧ ∀ x c, X.env.cells.lookup x = some c → c ≠ b
  bs : ∀ b o, X.base.get? b = some o → X.s_0.heap.get? b = some o ∧ X.H_0 b = none
  bsz : X.base.objs.size ≤ X.s_0.heap.objs.size
  noex : ∀ b o, X.base.get? b = some o → b ∉ X.ex
  exfs : ∀ b ∈ X.ex, b ∉ X.fs
  funs : X.s_0.heap.FunFrames X.base X.outer
  frf : ∀ b ∈ X.fs, X.H_0 b = none
  tb : Tabs X.prog X.K X.mg X.H_0

/-- all generators are bare, and there are no fewer -/
def BareG (g0 g : Array GenState) : Prop := AllBare g ∧ g0.size ≤ g.size
structure Inv (X : Cx) (pins : List (Addr × Obj)) (σ : List (Option V)) (H : Hp) (s : Shared) : Prop where
  ok : X.Ok
  os : s.os = X.s_0.os
  bare : BareG X.s_0.gens s.gens
  base : Un X.fs X.ex X.H_0 H X.s_0.heap s.heap
  loc : ∃ m, s.heap.Ns X.env.locals m ∧ ∀ (i : Nat) (x : Str) (v : V), X.N[i]? = some x → σ[i]? = some (some v) → Vis X.env.scope x → ∃ u, RelV v u ∧ Look X.env s.heap m x u
  cell : ∀ x c, X.env.cells.lookup x = some c → ∃ v, s.heap.IsCell c v
  free : H X.env.locals = none
  freeC : ∀ x c, X.env.cells.lookup x = some c → H c = none
  pin : ∀ p ∈ X.pn ++ pins, s.heap.get? p.1 = some p.2 ∧ H p.1 = none ∧ p.1 ≠ X.env.locals ∧ p.1 ∉ X.fs ∧ ∀ v, p.2.data ≠ .cell v
  hok : HOk X.prog X.w H s.heap
  len : σ.length = X.N.length

section
variable {X : Cx} {pins : List (Addr × Obj)} {σ : List (Option V)} {H H' : Hp} {s : Shared} {h' : Heap}

theorem Inv.bareS (I : Inv X pins σ H s) : BareG s.gens s.gens := ⟨I.bare.1, Nat.le_refl _⟩
theorem Cx.Ok.nofr (ok : X.Ok) {b : Addr} {o : Obj} (e : X.base.get? b = some o) : b ∉ X.fs := fun hb => by
  have := (ok.funs.mem hb).1
  rw [e] at this; cases this
theorem Inv.bs (I : Inv X pins σ H s) : ∀ b o, X.base.get? b = some o → s.heap.get? b = some o ∧ H b = none := fun b o e =>
  ⟨I.base.keep b o (I.ok.bs b o e).1 (I.ok.bs b o e).2 (I.ok.nofr e) (I.ok.noex b o e), I.base.free b o (I.ok.bs b o e).1 (I.ok.bs b o e).2 (I.ok.noex b o e)⟩
theorem Inv.bk (I : Inv X pins σ H s) : ∀ b o, X.base.get? b = some o → s.heap.get? b = some o := fun b o e => (I.bs b o e).1
theorem Inv.mod (I : Inv X pins σ H s) : Mod X.K X.mg X.base := I.ok.mod
theorem Inv.kIn (I : Inv X pins σ H s) : X.K.In s.heap := I.ok.mod.kin.keeps I.bk
theorem Inv.nolimit (I : Inv X pins σ H s) : s.heap.NoLimit := I.ok.mod.nolimit.keeps I.bk
/-- the frame over the base: for OpenK's rules (K.In X.base is I.mod.kin) -/
theorem Inv.fr (I : Inv X pins σ H s) : ∃ m, Fr X.base X.env.locals s.heap m :=
  let ⟨m, hn, _⟩ := I.loc
  ⟨m, hn, I.bk, Nat.le_trans I.ok.bsz I.ok.above⟩
theorem Inv.lt (I : Inv X pins σ H s) : X.env.locals < s.heap.objs.size := let ⟨_, hn, _⟩ := I.loc; hn.lt
theorem Inv.sz (I : Inv X pins σ H s) : X.s_0.heap.objs.size ≤ s.heap.objs.size := Nat.le_trans I.ok.above (Nat.le_of_lt I.lt)
theorem Inv.nofs (I : Inv X pins σ H s) {a : Addr} (h : s.heap.objs.size ≤ a) : a ∉ X.fs := fun hb => by
  obtain ⟨_, o, ho, _⟩ := I.ok.funs.mem hb
  exact absurd (Nat.lt_of_lt_of_le (Heap.lt_size ho) (Nat.le_trans I.sz h)) (Nat.lt_irrefl _)
theorem Inv.cne (I : Inv X pins σ H s) : ∀ x c, X.env.cells.lookup x = some c → c ≠ X.env.locals := fun x c e z => by
  obtain ⟨v, o, ho, hd⟩ := I.cell x c e
  obtain ⟨m, ⟨o', es, ep, ho', hd', _⟩, _⟩ := I.loc
  rw [z, ho'] at ho; cases ho; rw [hd'] at hd; cases hd
theorem Inv.funs (I : Inv X pins σ H s) : s.heap.FunFrames X.base X.outer := by
  have all : ∀ (l : List Env), (∀ b ∈ frs l, b ∈ X.fs) → X.s_0.heap.FunFrames X.base l → s.heap.FunFrames X.base l := by
    intro l
    induction l with
    | nil => intro _ _; trivial
    | cons env r ih =>
      intro hs hl
      obtain ⟨hk, ⟨L, o, hf, hn, ho, hd⟩, hr⟩ := hl
      have hL : L ∈ X.fs := hs L (by unfold frs; rw [List.filterMap_cons, hf]; exact List.mem_cons_self)
      obtain ⟨sl, e⟩ := I.base.slot L o ho (I.ok.frf L hL) hL fun z => I.ok.exfs L z hL
      exact ⟨hk, ⟨L, _, hf, hn, e, hd⟩, ih (fun b hb => hs b (by unfold frs; rw [List.filterMap_cons, hf]; exact List.mem_cons_of_mem _ hb)) hr⟩
  exact all X.outer (fun _ hb => hb) I.ok.funs

/-- the frames that run, for a call -/
theorem Inv.stack (I : Inv X pins σ H s) : s.heap.FunFrames X.base X.stack := by
  rcases I.ok.stk with e | ⟨e, hf⟩
  · rw [e]; exact I.funs
  · rw [e]
    obtain ⟨m, hn, _⟩ := I.loc
    refine .cons (by rw [I.ok.kind]; decide) hf hn ?_ I.funs
    exact Heap.get?_none_of_le (Nat.le_trans I.ok.bsz I.ok.above)
theorem Inv.stkSub (I : Inv X pins σ H s) : ∀ b ∈ frs X.stack, b ∈ X.env.locals :: X.fs := fun b hb => by
  rcases I.ok.stk with e | ⟨e, hf⟩
  · rw [e] at hb; exact List.mem_cons_of_mem _ hb
  · rw [e] at hb
    unfold frs at hb
    rw [List.filterMap_cons, hf] at hb
    exact hb
theorem Inv.stkFree (I : Inv X pins σ H s) : ∀ b ∈ frs X.stack, H b = none := fun b hb => by
  rcases List.mem_cons.mp (I.stkSub b hb) with e | hb
  · rw [e]; exact I.free
  · obtain ⟨_, o, ho, _⟩ := I.ok.funs.mem hb
    exact I.base.free b o ho (I.ok.frf b hb) fun z => I.ok.exfs b z hb

/-- THE STEP: the untracked objects but the frame and the records at ch are kept (the callers' frames up to slots), the frame's map is kept, the new abstract heap is held -/
theorem Inv.step {g' : Array GenState} {t' : Nat} {d' : Drawn} {ch : List Addr} (I : Inv X pins σ H s)
    (hch : ∀ b ∈ ch, (b ∈ X.ex ∨ X.s_0.heap.objs.size ≤ b) ∧ b ≠ X.env.locals ∧ (∀ x c, X.env.cells.lookup x = some c → c ≠ b) ∧ ∀ p ∈ X.pn ++ pins, p.1 ≠ b)
    (keep : ∀ b o, b ≠ X.env.locals → b ∉ X.fs → b ∉ ch → s.heap.get? b = some o → H b = none → h'.get? b = some o)
    (slot : ∀ b o, b ≠ X.env.locals → b ∈ X.fs → b ∉ ch → s.heap.get? b = some o → H b = none → ∃ sl, h'.get? b = some { o with slots := sl }) (free : ∀ b o, b ∉ ch → s.heap.get? b = some o → H b = none → H' b = none)
    (there : ∀ b o, b ∉ ch → s.heap.get? b = some o → ∃ o', h'.get? b = some o')
    (tups : ∀ b xs, H b = some (.tup xs) → H' b = some (.tup xs)) (frzs : ∀ b o u, H b = some (.frz o u) → H' b = some (.frz o u)) (tbls : ∀ b ps, H b = some (.tbl ps) → ∃ more, H' b = some (.tbl (ps ++ more)))
    (ns : ∀ m, s.heap.Ns X.env.locals m → h'.Ns X.env.locals m) (hok : HOk X.prog X.w H' h') (hg : BareG s.gens g') :
    Inv X pins σ H' { s with heap := h', gens := g', drawn := d', toks := t' } := by
  have neL : ∀ b o, X.s_0.heap.get? b = some o → b ≠ X.env.locals := fun b o e => Nat.ne_of_lt (Nat.lt_of_lt_of_le (Heap.lt_size e) I.ok.above)
  have neC : ∀ b o, X.s_0.heap.get? b = some o → b ∉ X.ex → b ∉ ch := fun b o e hx hb => by
    rcases (hch b hb).1 with z | z
    · exact hx z
    · exact absurd (Nat.lt_of_lt_of_le (Heap.lt_size e) z) (Nat.lt_irrefl _)
  have cellK : ∀ x c, X.env.cells.lookup x = some c → ∀ v, s.heap.IsCell c v → h'.IsCell c v := fun x c e v ⟨o, ho, hd⟩ => by
    have nch : c ∉ ch := fun z => (hch c z).2.2.1 x c e rfl
    by_cases hc : c ∈ X.fs
    · obtain ⟨sl, q⟩ := slot c o (I.cne x c e) hc nch ho (I.freeC x c e)
      exact ⟨_, q, hd⟩
    · exact ⟨o, keep c o (I.cne x c e) hc nch ho (I.freeC x c e), hd⟩
  refine ⟨I.ok, I.os, ⟨hg.1, Nat.le_trans I.bare.2 hg.2⟩, ⟨fun b o e n hb hx => ?_, fun b o e n hb hx => ?_, fun b o e n hx => ?_, fun b o e hx => ?_, fun b xs e => tups b xs (I.base.tups b xs e), fun b o xs e => frzs b o xs (I.base.frzs b o xs e), fun b ps e => ?_⟩, ?_, fun x c e => ?_, ?_, fun x c e => ?_, fun p hp => ?_, hok, I.len⟩
  · exact keep b o (neL b o e) hb (neC b o e hx) (I.base.keep b o e n hb hx) (I.base.free b o e n hx)
  · obtain ⟨sl, e1⟩ := I.base.slot b o e n hb hx
    obtain ⟨sl', e2⟩ := slot b _ (neL b o e) hb (neC b o e hx) e1 (I.base.free b o e n hx)
    exact ⟨sl', e2⟩
  · obtain ⟨o', e1⟩ := I.base.there b o e hx
    exact free b o' (neC b o e hx) e1 (I.base.free b o e n hx)
  · obtain ⟨o', e1⟩ := I.base.there b o e hx
    exact there b o' (neC b o e hx) e1
  · obtain ⟨m1, e1⟩ := I.base.tbls b ps e
    obtain ⟨m2, e2⟩ := tbls b _ e1
    exact ⟨m1 ++ m2, by rw [e2, Array.append_assoc]⟩
  · obtain ⟨m, hn, hl⟩ := I.loc
    refine ⟨m, ns m hn, fun i x v e1 e2 e3 => ?_⟩
    obtain ⟨u, r, l⟩ := hl i x v e1 e2 e3
    refine ⟨u, r, ?_⟩
    rcases l with l | ⟨k, c, e, z⟩
    · exact .inl l
    · exact .inr ⟨k, c, e, cellK x c e _ z⟩
  · obtain ⟨v, z⟩ := I.cell x c e
    exact ⟨v, cellK x c e v z⟩
  · obtain ⟨m, ⟨o, _, _, ho, _⟩, _⟩ := I.loc
    exact free _ o (fun z => (hch _ z).2.1 rfl) ho I.free
  · obtain ⟨v, o, ho, hd⟩ := I.cell x c e
    exact free c o (fun z => (hch c z).2.2.1 x c e rfl) ho (I.freeC x c e)
  · obtain ⟨e, n, ne, nf, d⟩ := I.pin p hp
    have nch : p.1 ∉ ch := fun z => (hch p.1 z).2.2.2 p hp rfl
    exact ⟨keep p.1 p.2 ne nf nch e n, free p.1 p.2 nch e n, ne, nf, d⟩
/-- .. where the frame's own object is kept too -/
theorem Inv.un {t' : Nat} (I : Inv X pins σ H s) (u : Un X.fs [] H H' s.heap h') (hok : HOk X.prog X.w H' h') : Inv X pins σ H' { s with heap := h', toks := t' } := by
  obtain ⟨m, ⟨o, es, ep, ho, r⟩, _⟩ := id I.loc
  obtain ⟨sl, hL⟩ := u.any ho I.free (by simp)
  exact I.step (g' := s.gens) (d' := s.drawn) (ch := []) (fun _ z => nomatch z) (fun b o _ hb _ e n => u.keep b o e n hb (by simp)) (fun b o _ hb _ e n => u.slot b o e n hb (by simp)) (fun b o _ e n => u.free b o e n (by simp)) (fun b o _ e => u.there b o e (by simp)) u.tups u.frzs u.tbls (fun m' hm => by
    obtain ⟨o', es', ep', ho', r'⟩ := hm
    rw [ho] at ho'; cases ho'
    exact ⟨_, es', ep', hL, r'⟩) hok I.bareS
/-- behind a call (or a comprehension's block): the slots of this frame may have changed too, the records at ch may have turned -/
theorem Inv.call {g' : Array GenState} {t' : Nat} {d' : Drawn} {ch : List Addr} (I : Inv X pins σ H s) (u : Un (frs X.stack) ch H H' s.heap h') (hok : HOk X.prog X.w H' h') (hg : BareG s.gens g')
    (hch : ∀ b ∈ ch, (b ∈ X.ex ∨ X.s_0.heap.objs.size ≤ b) ∧ b ≠ X.env.locals ∧ (∀ x c, X.env.cells.lookup x = some c → c ≠ b) ∧ ∀ p ∈ X.pn ++ pins, p.1 ≠ b) :
    Inv X pins σ H' { s with heap := h', gens := g', drawn := d', toks := t' } := by
  obtain ⟨m, ⟨o, es, ep, ho, r⟩, _⟩ := id I.loc
  obtain ⟨sl, hL⟩ := u.any ho I.free fun z => (hch _ z).2.1 rfl
  exact I.step (ch := ch) hch (fun b o hL hb hc e n => u.keep b o e n (fun z => (List.mem_cons.mp (I.stkSub b z)).elim hL hb) hc) (fun b o _ _ hc e n => u.any e n hc) (fun b o hc e n => u.free b o e n hc) (fun b o hc e => u.there b o e hc) u.tups u.frzs u.tbls (fun m' hm => by
    obtain ⟨o', es', ep', ho', r'⟩ := hm
    rw [ho] at ho'; cases ho'
    exact ⟨_, es', ep', hL, r'⟩) hok hg
/-- an untracked record of ours (an iterator) has turned -/
theorem Inv.turned {t' : Nat} {it : Addr} (I : Inv X pins σ H s) (k : ∀ b o, b ≠ it → s.heap.get? b = some o → h'.get? b = some o) (hn : H it = none) (hL : it ≠ X.env.locals)
    (h1 : it ∈ X.ex ∨ X.s_0.heap.objs.size ≤ it) (h2 : ∀ x c, X.env.cells.lookup x = some c → c ≠ it) (h3 : ∀ p ∈ X.pn ++ pins, p.1 ≠ it) : Inv X pins σ H { s with heap := h', toks := t' } := by
  have nit : ∀ b u, H b = some u → b ≠ it := fun b u e z => by rw [z, hn] at e; cases e
  refine I.step (g' := s.gens) (d' := s.drawn) (ch := [it]) (fun b hb => ?_) (fun b o _ _ hc e _ => k b o (fun z => hc (by simp [z])) e) (fun b o _ _ hc e _ => ⟨o.slots, k b o (fun z => hc (by simp [z])) e⟩) (fun _ _ _ _ n => n)
    (fun b o hc e => ⟨o, k b o (fun z => hc (by simp [z])) e⟩) (fun _ _ e => e) (fun _ _ _ e => e) (fun b ps e => ⟨#[], by rw [e]; simp⟩) (fun m hm => ?_) (fun b u e => ?_) I.bareS
  · have e : b = it := by simpa using hb
    subst e
    exact ⟨h1, hL, h2, h3⟩
  · obtain ⟨o, es, ep, ho, r⟩ := hm
    exact ⟨o, es, ep, k _ o (Ne.symm hL) ho, r⟩
  · refine (I.hok b u e).stay (fun c v hc q => k c v ?_ q) (fun _ q => q) fun _ _ q => q
    rcases hc with z | z
    · rw [z]; exact nit b u e
    · exact nit c _ z
theorem Inv.tok (I : Inv X pins σ H s) (t : Nat) : Inv X pins σ H { s with toks := t } := I.un (h' := s.heap) (t' := t) Un.refl I.hok
/-- all objects kept -/
theorem Inv.kept {t' : Nat} (I : Inv X pins σ H s) (k : ∀ b u, s.heap.get? b = some u → h'.get? b = some u) : Inv X pins σ H { s with heap := h', toks := t' } := I.un (Un.kept k) (I.hok.kept k)
/-- a new object laid and tracked -/
theorem Inv.laid {a : Addr} {o : HO} {t' : Nat} (I : Inv X pins σ H s) (k : ∀ b u, s.heap.get? b = some u → h'.get? b = some u) (hp : s.heap.objs.size ≤ a) (new : ObjOk X.prog X.w (upd H a o) h' a o) :
    Inv X pins σ (upd H a o) { s with heap := h', toks := t' } := I.un (Un.laid k hp (I.hok.fresh hp)) (I.hok.laid k hp new)
/-- an object written -/
theorem Inv.write {x e : Addr} {o : HO} {t' : Nat} (I : Inv X pins σ H s) (mu : Mut (H x)) (he : e = x ∨ H e = some (.own x)) (k : ∀ b u, b ≠ e → s.heap.get? b = some u → h'.get? b = some u) (heo : ∃ u, h'.get? e = some u)
    (new : ObjOk X.prog X.w (upd H x o) h' x o) : Inv X pins σ (upd H x o) { s with heap := h', toks := t' } := I.un (Un.write mu he k heo) (I.hok.write mu he k heo new)
/-- forgetting slots, pins -/
theorem Inv.weak {σ' : List (Option V)} (I : Inv X pins σ H s) (hl : σ'.length = σ.length) (w : ∀ (i : Nat) v, σ'[i]? = some (some v) → σ[i]? = some (some v)) : Inv X pins σ' H s :=
  ⟨I.ok, I.os, I.bare, I.base, let ⟨m, hn, hl'⟩ := I.loc; ⟨m, hn, fun i x v e1 e2 e3 => hl' i x v e1 (w i v e2) e3⟩, I.cell, I.free, I.freeC, I.pin, I.hok, hl.trans I.len⟩
theorem Inv.pins_of {pins' : List (Addr × Obj)} (I : Inv X pins σ H s) (h : ∀ p ∈ pins', s.heap.get? p.1 = some p.2 ∧ H p.1 = none ∧ p.1 ≠ X.env.locals ∧ p.1 ∉ X.fs ∧ ∀ v, p.2.data ≠ .cell v) : Inv X pins' σ H s :=
  ⟨I.ok, I.os, I.bare, I.base, I.loc, I.cell, I.free, I.freeC, fun p hp => (List.mem_append.mp hp).elim (fun z => I.pin p (List.mem_append_left _ z)) (h p), I.hok, I.len⟩

theorem nodup_ix {N : List Str} (hN : N.Nodup) {i j : Nat} {x : Str} (a : N[i]? = some x) (b : N[j]? = some x) : i = j := by
  obtain ⟨h1, e1⟩ := List.getElem?_eq_some_iff.mp a
  obtain ⟨h2, e2⟩ := List.getElem?_eq_some_iff.mp b
  exact (List.getElem_inj hN).mp (e1.trans e2.symm)

/-- a name is stored; what changed -/
theorem store_ok2 {M : Model} {A : Around} {E : Value → Shared → Prop} {i : Nat} {x : Str} {v : V} {u : Value} {Q : Unit → Shared → Prop} (I : Inv X pins σ H s) (hN : X.N.Nodup) (hi : X.N[i]? = some x) (hx : Loc X.env.scope x) (r : RelV v u)
    (h : ∀ s', Inv X pins (σ.set i (some v)) H s' → (∃ a, Heap.SameBut a s.heap s'.heap ∧ (a = X.env.locals ∨ X.env.cells.lookup x = some a)) → Q () s') (hf : X.fn x = true ∨ X.env.scope.names.lookup x = some .local := by first | exact .inl rfl | exact .inr rfl | assumption) : wpAny M A (storeName X.env x u) Q E s := by
  obtain ⟨m, hn, hl⟩ := id I.loc
  have hcls : (X.env.scope.kind == .class || (X.env.scope.kind == .module && X.env.locals != X.env.globals)) = false := by rw [I.ok.kind]; rfl
  have hiσ : i < σ.length := by rw [I.len]; exact (List.getElem?_eq_some_iff.mp hi).1
  have cne := I.cne
  have tracked : ∀ {a : Addr} {h' : Heap}, (∃ o, s.heap.get? a = some o ∧ H a = none) → Heap.SameBut a s.heap h' → HOk X.prog X.w H h' := fun {a h'} ha hs b ob e => by
    obtain ⟨_, _, hfree⟩ := ha
    refine (I.hok b ob e).stay (fun c w' hc q => (hs.2 c ?_).trans q) (fun _ q => q) fun _ _ q => q
    rintro rfl
    rcases hc with rfl | hc
    · rw [hfree] at e; cases e
    · rw [hfree] at hc; cases hc
  rcases hx with hk | hk
  · refine wpAny_storeName_local hk hn (fun h' hn' hs => ?_) hcls
    obtain ⟨oL, _, _, hoL, _⟩ := id hn
    refine h _ ⟨I.ok, I.os, I.bare, ⟨fun b o e n hb hx => ?_, fun b o e n hb hx => ?_, I.base.free, fun b o e hx => ?_, I.base.tups, I.base.frzs, I.base.tbls⟩, ⟨_, hn', fun j y v' e1 e2 e3 => ?_⟩, fun y c e => ?_, I.free, I.freeC, fun p hp => ?_, tracked ⟨oL, hoL, I.free⟩ hs, by simpa using I.len⟩ ⟨_, hs, .inl rfl⟩
    · exact (hs.2 b (Nat.ne_of_lt (Nat.lt_of_lt_of_le (Heap.lt_size e) I.ok.above))).trans (I.base.keep b o e n hb hx)
    · obtain ⟨sl, e1⟩ := I.base.slot b o e n hb hx
      exact ⟨sl, (hs.2 b (Nat.ne_of_lt (Nat.lt_of_lt_of_le (Heap.lt_size e) I.ok.above))).trans e1⟩
    · obtain ⟨o', e1⟩ := I.base.there b o e hx
      exact ⟨o', (hs.2 b (Nat.ne_of_lt (Nat.lt_of_lt_of_le (Heap.lt_size e) I.ok.above))).trans e1⟩
    · by_cases hj : j = i
      · subst hj
        rw [hi] at e1; cases e1
        rw [List.getElem?_set_self hiσ] at e2
        cases e2
        exact ⟨u, r, .inl ⟨hk, by simp⟩⟩
      · rw [List.getElem?_set_ne (Ne.symm hj)] at e2
        obtain ⟨u', r', q⟩ := hl j y v' e1 e2 e3
        refine ⟨u', r', ?_⟩
        rcases q with ⟨k, e⟩ | ⟨k, c, e, z⟩
        · refine .inl ⟨k, ?_⟩
          have : y ≠ x := fun e => hj (nodup_ix hN e1 (e ▸ hi))
          simp [this, e]
        · exact .inr ⟨k, c, e, z.sameBut hs (cne y c e)⟩
    · obtain ⟨w', z⟩ := I.cell y c e
      exact ⟨w', z.sameBut hs (cne y c e)⟩
    · obtain ⟨e, n, ne, nf, d⟩ := I.pin p hp
      exact ⟨(hs.2 p.1 ne).trans e, n, ne, nf, d⟩
  · have hfn : X.fn x = true := by
      rcases hf with z | z
      · exact z
      · rw [z] at hk; cases hk
    obtain ⟨c, hc⟩ := I.ok.has x (.inl hk)
    obtain ⟨w', z⟩ := I.cell x c hc
    refine wpAny_storeName_cell I.ok.kind hk hc z (fun h' hc' hs => ?_)
    obtain ⟨oc, hoc, hocd⟩ := id z
    refine h { s with heap := h' } ⟨I.ok, I.os, I.bare, ⟨fun b o e n hb hx => ?_, fun b o e n hb hx => ?_, I.base.free, fun b o e hx => ?_, I.base.tups, I.base.frzs, I.base.tbls⟩, ⟨m, hn.sameBut hs (Ne.symm (cne x c hc)), fun j y v' e1 e2 e3 => ?_⟩, fun y c' e => ?_, I.free, I.freeC, fun p hp => ?_, tracked ⟨oc, hoc, I.freeC x c hc⟩ hs, by simpa using I.len⟩ ⟨c, hs, .inr hc⟩
    · exact (hs.2 b (Nat.ne_of_lt (Nat.lt_of_lt_of_le (Heap.lt_size e) (I.ok.cab x c hfn hc)))).trans (I.base.keep b o e n hb hx)
    · obtain ⟨sl, e1⟩ := I.base.slot b o e n hb hx
      exact ⟨sl, (hs.2 b (Nat.ne_of_lt (Nat.lt_of_lt_of_le (Heap.lt_size e) (I.ok.cab x c hfn hc)))).trans e1⟩
    · obtain ⟨o', e1⟩ := I.base.there b o e hx
      exact ⟨o', (hs.2 b (Nat.ne_of_lt (Nat.lt_of_lt_of_le (Heap.lt_size e) (I.ok.cab x c hfn hc)))).trans e1⟩
    · by_cases hj : j = i
      · subst hj
        rw [hi] at e1; cases e1
        rw [List.getElem?_set_self hiσ] at e2
        cases e2
        exact ⟨u, r, .inr ⟨.inl hk, c, hc, hc'⟩⟩
      · rw [List.getElem?_set_ne (Ne.symm hj)] at e2
        obtain ⟨u', r', q⟩ := hl j y v' e1 e2 e3
        refine ⟨u', r', ?_⟩
        rcases q with q | ⟨k, c', e, z'⟩
        · exact .inl q
        · refine .inr ⟨k, c', e, z'.sameBut hs ?_⟩
          rintro rfl
          exact hj (nodup_ix hN e1 (I.ok.inj _ _ _ e hc ▸ hi))
    · by_cases hcc : c' = c
      · subst hcc; exact ⟨_, hc'⟩
      · obtain ⟨w2, z2⟩ := I.cell y c' e
        exact ⟨w2, z2.sameBut hs hcc⟩
    · obtain ⟨e, n, ne, nf, d⟩ := I.pin p hp
      refine ⟨(hs.2 p.1 ?_).trans e, n, ne, nf, d⟩
      intro q
      rw [q, hoc] at e
      have q' : oc = p.2 := Option.some.inj e
      exact d w' (by rw [← q']; exact hocd)
theorem store_ok {M : Model} {A : Around} {E : Value → Shared → Prop} {i : Nat} {x : Str} {v : V} {u : Value} {Q : Unit → Shared → Prop} (I : Inv X pins σ H s) (hN : X.N.Nodup) (hi : X.N[i]? = some x) (hx : Loc X.env.scope x) (r : RelV v u)
    (h : ∀ s', Inv X pins (σ.set i (some v)) H s' → Q () s') (hf : X.fn x = true ∨ X.env.scope.names.lookup x = some .local := by first | exact .inl rfl | exact .inr rfl | assumption) : wpAny M A (storeName X.env x u) Q E s :=
  store_ok2 I hN hi hx r (fun s' I' _ => h s' I') hf
/-- behind a call or a block, the state as it is -/
theorem Inv.call' {s' : Shared} {ch : List Addr} (I : Inv X pins σ H s) (ho : s'.os = s.os) (u : Un (frs X.stack) ch H H' s.heap s'.heap) (hok : HOk X.prog X.w H' s'.heap) (hg : BareG s.gens s'.gens)
    (hch : ∀ b ∈ ch, (b ∈ X.ex ∨ X.s_0.heap.objs.size ≤ b) ∧ b ≠ X.env.locals ∧ (∀ x c, X.env.cells.lookup x = some c → c ≠ b) ∧ ∀ p ∈ X.pn ++ pins, p.1 ≠ b) : Inv X pins σ H' s' := by
  obtain ⟨h', g', d', t', o'⟩ := s'
  have e : o' = s.os := ho
  subst e
  exact I.call (g' := g') (t' := t') (d' := d') u hok hg hch
end

/-- an exception: its class, its own dict's address (where it has one), the abstract heap behind it -/
abbrev XK := Value → Option Addr → Hp → Prop
abbrev St := List (Option V)
abbrev VK := V → Hp → Prop
/-- an expression's reading; a test's; an argument list's -/
abbrev TE := St → Hp → VK → Prop
abbrev TT := St → Hp → (Bool → Hp → Prop) → Prop
abbrev TA := St → Hp → (List V → Hp → Prop) → Prop
/-- what is wanted behind a statement -/
structure Ends where
  nx : St → Hp → Prop
  rt : VK
  bk : St → Hp → Prop := fun _ _ => False
  ct : St → Hp → Prop := fun _ _ => False
abbrev TS := Ends → St → Hp → Prop

def EP (X : Cx) (pins : List (Addr × Obj)) (σ : St) (Q : VK) (u : Value) (s' : Shared) : Prop := ∃ v H', Inv X pins σ H' s' ∧ RelV v u ∧ Q v H'
def TP (X : Cx) (pins : List (Addr × Obj)) (σ : St) (Q : Bool → Hp → Prop) (b : Bool) (s' : Shared) : Prop := ∃ H', Inv X pins σ H' s' ∧ Q b H'
def AP (X : Cx) (pins : List (Addr × Obj)) (σ : St) (Q : List V → Hp → Prop) (us : List Value) (s' : Shared) : Prop := ∃ vs H', Inv X pins σ H' s' ∧ Vals vs us ∧ Q vs H'
def SP (X : Cx) (pins : List (Addr × Obj)) (D : Ends) (f : Flow) (s' : Shared) : Prop :=
  match f with
  | .next => ∃ σ' H', Inv X pins σ' H' s' ∧ D.nx σ' H'
  | .brk => ∃ σ' H', Inv X pins σ' H' s' ∧ D.bk σ' H'
  | .cont => ∃ σ' H', Inv X pins σ' H' s' ∧ D.ct σ' H'
  | .ret u => ∃ v σ' H', Inv X pins σ' H' s' ∧ RelV v u ∧ D.rt v H'

def PE (X : Cx) (e : Expr) (t : TE) : Prop :=
  ∀ (pins : List (Addr × Obj)) (s : Shared) (σ : St) (H : Hp) (Q : VK), Inv X pins σ H s → t σ H Q → wpAny (model X.prog X.w) X.A (eval e X.env) (EP X pins σ Q) X.xe s
def PT (X : Cx) (e : Expr) (t : TT) : Prop :=
  ∀ (pins : List (Addr × Obj)) (s : Shared) (σ : St) (H : Hp) (Q : Bool → Hp → Prop), Inv X pins σ H s → t σ H Q → wpAny (model X.prog X.w) X.A (isTrue e X.env (eval e X.env)) (TP X pins σ Q) X.xe s
/-- a test whatever its 'whole' is (and, or) -/
def PW (X : Cx) (e : Expr) (t : TT) : Prop :=
  ∀ (whole : Sem Value) (pins : List (Addr × Obj)) (s : Shared) (σ : St) (H : Hp) (Q : Bool → Hp → Prop), Inv X pins σ H s → t σ H Q → wpAny (model X.prog X.w) X.A (isTrue e X.env whole) (TP X pins σ Q) X.xe s
theorem PW.pt {X : Cx} {e : Expr} {t : TT} (h : PW X e t) : PT X e t := h _
/-- an argument list (no star), from the left -/
def PA (X : Cx) (es : List Expr) (t : TA) : Prop :=
  ∀ (pos : Pos) (pins : List (Addr × Obj)) (s : Shared) (σ : St) (H : Hp) (Q : List V → Hp → Prop), Inv X pins σ H s → t σ H Q → wpAny (model X.prog X.w) X.A (spliced (backTo pos (starEach es X.env))) (AP X pins σ Q) X.xe s
def PS (X : Cx) (st : Stmt) (t : TS) : Prop :=
  ∀ (pins : List (Addr × Obj)) (s : Shared) (σ : St) (H : Hp) (D : Ends), Inv X pins σ H s → t D σ H → wpAny (model X.prog X.w) X.A (exec st X.env) (SP X pins D) X.xe s
def PSs (X : Cx) (st : List Stmt) (t : TS) : Prop :=
  ∀ (pins : List (Addr × Obj)) (s : Shared) (σ : St) (H : Hp) (D : Ends), Inv X pins σ H s → t D σ H → wpAny (model X.prog X.w) X.A (execs st X.env) (SP X pins D) X.xe s
/-- weaken the end -/
theorem thn {α : Type} {t : Sem α} {Q Q' : α → Shared → Prop} {M : Model} {A : Around} {E : Value → Shared → Prop} {s : Shared} (h : wpAny M A t Q E s) (hQ : ∀ a s, Q a s → Q' a s) : wpAny M A t Q' E s := wpAny_mono h hQ fun _ _ x => x
end L2

namespace L2
open PySem PySem.Spec PyProof.Rows
section
variable {X : Cx}

def tVar (i : Nat) : TE := fun σ H Q => ∃ v, σ[i]? = some (some v) ∧ Q v H
def tC (v : V) : TE := fun _ H Q => Q v H
theorem pe_var {i : Nat} {x : Str} {pos : Pos} (hN : X.N[i]? = some x) (hv : Vis X.env.scope x) (hd : (x == ("__debug__" : Str)) = false := by decide) (hcd : (x == ("__classdict__" : Str)) = false := by decide) : PE X (.Name x pos) (tVar i) := by
  intro pins s σ H Q I h
  obtain ⟨v, e, h⟩ := h
  obtain ⟨m, hn, hl⟩ := I.loc
  obtain ⟨u, r, l⟩ := hl i x v hN e hv
  have fin : EP X pins σ Q u s := ⟨v, H, I, r, h⟩
  rcases l with ⟨hk, hm⟩ | ⟨hk, c, hc, hcell⟩
  · exact wpAny_Name (wpAny_loadName_local I.ok.kind hk hn hm fin) hd
  · rcases hk with hk | hk
    · exact wpAny_Name (wpAny_loadName_cell I.ok.kind hk hc hcell fin) hd
    · exact wpAny_Name (wpAny_loadName_free I.ok.kind hk hc hcell fin hcd) hd
theorem pe_int {i j pos} : PE X (.Constant (.int i) j pos) (tC (.int i)) := fun _ _ _ H _ I h => wpAny_Constant_int ⟨.int i, H, I.tok _, ⟨_, rfl⟩, h⟩
theorem pe_bl {b j pos} : PE X (.Constant (.bool b) j pos) (tC (.bl b)) := fun _ _ _ H _ I h => Constant_bool ⟨.bl b, H, I, rfl, h⟩
theorem pe_non {j pos} : PE X (.Constant .none j pos) (tC .non) := fun _ _ _ H _ I h => Constant_none ⟨.non, H, I, rfl, h⟩
/-- a global name of the def -/
def Gl (X : Cx) (x : Str) : Prop := X.env.kindOf x = some .globalImplicit
theorem ld_glob {E : Value → Shared → Prop} {pins : List (Addr × Obj)} {s : Shared} {σ : St} {H : Hp} {x : Str} {u : Value} {pos : Pos} {Q : Value → Shared → Prop} (I : Inv X pins σ H s) (hg : Gl X x) (hm : X.mg x = some u) (h : Q u s)
    (hd : (x == ("__debug__" : Str)) = false := by decide) : wpAny (model X.prog X.w) X.A (eval (.Name x pos) X.env) Q E s :=
  Calls.Name_function_global I.ok.kind hg (Calls.loadGlobal_global (by rw [I.ok.glob]; exact I.mod.glob.keeps I.bk) hm h) hd
theorem ld_blt {E : Value → Shared → Prop} {pins : List (Addr × Obj)} {s : Shared} {σ : St} {H : Hp} {x : Str} {u : Value} {pos : Pos} {Q : Value → Shared → Prop} (I : Inv X pins σ H s) (hg : Gl X x) (hm : X.mg x = none) (hv : bootBuiltins x = some u) (h : Q u s)
    (hn : x ≠ "__name__" := by decide) (hd : (x == ("__debug__" : Str)) = false := by decide) : wpAny (model X.prog X.w) X.A (eval (.Name x pos) X.env) Q E s := by
  obtain ⟨mb, h1, h2⟩ := I.mod.blt
  exact Calls.Name_function_global I.ok.kind hg (Calls.loadGlobal_builtin (by rw [I.ok.glob]; exact I.mod.glob.keeps I.bk) hm (by rw [I.ok.blt]; exact h1.keeps I.bk) ((h2 x hn).trans hv) h) hd
theorem pe_bltn {x : Str} {v : V} {u : Value} {pos : Pos} (hg : Gl X x) (hm : X.mg x = none) (hv : bootBuiltins x = some u) (r : RelV v u) (hn : x ≠ "__name__" := by decide) (hd : (x == ("__debug__" : Str)) = false := by decide) : PE X (.Name x pos) (tC v) :=
  fun _ _ _ H _ I h => ld_blt I hg hm hv ⟨v, H, I, r, h⟩ hn hd

variable {a b : Expr} {ta tb : TE} {pos : Pos}
/-- a comparison as a value, as a test -/
def tB (t : TE) : TT := fun σ H Q => t σ H fun x H1 => ∃ c, x = .bl c ∧ Q c H1
/-- an expression whose value is a bool, as a test -/
theorem pt_val {e : Expr} {t : TE} (h : PE X e t) (he : ∀ whole, isTrue e X.env whole = (do let v ← whole; standAt e.pos; holding [v] (truthy v)) := by intro _; rfl) : PT X e (tB t) := by
  intro pins s σ H Q I hw
  refine isTrue_plain (thn (h pins s σ H _ I hw) fun v s1 ⟨x, H1, I1, r1, q1⟩ => ?_) (he _)
  obtain ⟨d, rfl, q⟩ := q1
  cases r1
  exact wpAny_truthy_bool ⟨H1, I1, q⟩

variable {tA tB' : TT} {rest : List Expr}
def tAnd (t u : TT) : TT := fun σ H Q => t σ H fun c H1 => if c = true then u σ H1 Q else Q false H1
def tOr (t u : TT) : TT := fun σ H Q => t σ H fun c H1 => if c = true then Q true H1 else u σ H1 Q
def tNot (t : TT) : TT := fun σ H Q => t σ H fun c H1 => Q (!c) H1
theorem pw_and1 (ha : PT X a tA) : PW X (.BoolOp .And [a] pos) tA := by
  intro wh pins s σ H Q I h
  refine isTrue_and (thn (ha pins s σ H Q I h) fun c s1 e => ?_)
  cases c with
  | true => exact isTrue_and_nil e
  | false => exact e
theorem pw_or1 (ha : PT X a tA) : PW X (.BoolOp .Or [a] pos) tA := by
  intro wh pins s σ H Q I h
  refine isTrue_or (thn (ha pins s σ H Q I h) fun c s1 e => ?_)
  cases c with
  | false => exact isTrue_or_nil e
  | true => exact e
theorem pw_and (ha : PT X a tA) (hb : PW X (.BoolOp .And (b :: rest) pos) tB') : PW X (.BoolOp .And (a :: b :: rest) pos) (tAnd tA tB') := by
  intro wh pins s σ H Q I h
  refine isTrue_and (thn (ha pins s σ H _ I h) fun c s1 ⟨H1, I1, q1⟩ => ?_)
  cases c with
  | true => exact hb wh pins s1 σ H1 Q I1 q1
  | false => exact ⟨H1, I1, q1⟩
theorem pw_or (ha : PT X a tA) (hb : PW X (.BoolOp .Or (b :: rest) pos) tB') : PW X (.BoolOp .Or (a :: b :: rest) pos) (tOr tA tB') := by
  intro wh pins s σ H Q I h
  refine isTrue_or (thn (ha pins s σ H _ I h) fun c s1 ⟨H1, I1, q1⟩ => ?_)
  cases c with
  | true => exact ⟨H1, I1, q1⟩
  | false => exact hb wh pins s1 σ H1 Q I1 q1
theorem pt_not (ha : PT X a tA) : PT X (.UnaryOp .Not a pos) (tNot tA) := by
  intro pins s σ H Q I h
  exact isTrue_not (ha pins s σ H (fun c H1 => Q (!c) H1) I h)
/-- .. as values (bools) -/
def tAndV (ta tb : TE) : TE := fun σ H Q => ta σ H fun x H1 => ∃ c, x = .bl c ∧ if c = true then tb σ H1 Q else Q (.bl false) H1
def tNotV (ta : TE) : TE := fun σ H Q => ta σ H fun x H1 => ∃ c, x = .bl c ∧ Q (.bl (!c)) H1
theorem pe_one {op} {t : TE} (h : PE X a t) : PE X (.BoolOp op [a] pos) t := fun pins s σ H Q I hw => BoolOp_one (h pins s σ H Q I hw)
theorem pe_and (ha : PE X a ta) (hb : PE X (.BoolOp .And (b :: rest) pos) tb) : PE X (.BoolOp .And (a :: b :: rest) pos) (tAndV ta tb) := by
  intro pins s σ H Q I h
  refine BoolOp_and (thn (ha pins s σ H _ I h) fun v s1 ⟨x, H1, I1, r1, q1⟩ => ?_)
  obtain ⟨c, rfl, q1⟩ := q1
  cases r1
  refine wpAny_truthy_bool ?_
  cases c with
  | true => exact hb pins s1 σ H1 Q I1 q1
  | false => exact ⟨.bl false, H1, I1, rfl, q1⟩
theorem pe_not (ha : PE X a ta) : PE X (.UnaryOp .Not a pos) (tNotV ta) := by
  intro pins s σ H Q I h
  refine UnaryOp_ (thn (ha pins s σ H _ I h) fun v s1 ⟨x, H1, I1, r1, q1⟩ => ?_)
  obtain ⟨c, rfl, q1⟩ := q1
  cases r1
  exact not_of (wpAny_truthy_bool ⟨.bl (!c), H1, I1, rfl, q1⟩)
end
end L2

namespace L2
open PySem PySem.Spec PyProof.Rows

def SqL (K : PySem.W.Frag) (H : Hp) (a : Addr) (xs : List V) : Prop :=
  Rd H a (.lst xs) ∨
    ∃ (o : Obj) (its : Array Value) (n : Nat), K.lookup a = some o ∧ o.cls = .type "list" ∧ o.dict = none ∧ o.data = .seq its n ∧ its.size ≤ sizeLine ∧ Vals xs its.toList
def SqT (K : PySem.W.Frag) (H : Hp) (a : Addr) (xs : List V) : Prop :=
  Rd H a (.tup xs) ∨
    ∃ (o : Obj) (its : Array Value) (n : Nat), K.lookup a = some o ∧ o.cls = .type "tuple" ∧ o.data = .seq its n ∧ its.size ≤ sizeLine ∧ Vals xs its.toList
def absV : Value → Option V
  | .none => some .non
  | .bool b => some (.bl b)
  | .int i _ => some (.int i)
  | .str x _ => some (.str x)
  | .bytes b _ => some (.byt b)
  | .float b _ => some (.flt b)
  | .ref a => some (.ref a)
  | .type n => some (.ty n)
  | _ => none
theorem RelV.abs {x : V} {u : Value} (r : RelV x u) : absV u = some x := by
  cases x with
  | non => cases r; rfl
  | bl _ => cases r; rfl
  | int _ => obtain ⟨t, rfl⟩ := r; rfl
  | str _ => obtain ⟨t, rfl⟩ := r; rfl
  | byt _ => obtain ⟨t, rfl⟩ := r; rfl
  | flt _ => obtain ⟨t, rfl⟩ := r; rfl
  | ref _ => cases r; rfl
  | ty _ => cases r; rfl
theorem RelV.inj {x y : V} {u : Value} (r : RelV x u) (q : RelV y u) : x = y := Option.some.inj (r.abs.symm.trans q.abs)
theorem Vals.inj : ∀ {xs ys : List V} {us : List Value}, Vals xs us → Vals ys us → xs = ys
  | _, _, _, .nil, .nil => rfl
  | _, _, _, .cons r t, .cons r' t' => by rw [r.inj r', Vals.inj t t']
section
variable {X : Cx} {pins : List (Addr × Obj)} {σ : St} {H : Hp} {s : Shared} {a : Addr} {xs ys : List V}
theorem SqL.of {K : PySem.W.Frag} (h : H a = some (.lst xs)) : SqL K H a xs := .inl (.inl h)
theorem SqT.of {K : PySem.W.Frag} (h : H a = some (.tup xs)) : SqT K H a xs := .inl (.inl h)
theorem Inv.list (I : Inv X pins σ H s) (h : SqL X.K H a xs) : ∃ its : List Value, Vals xs its ∧ PlainL s.heap a its.toArray ∧ xs.length ≤ sizeLine := by
  rcases h with h | ⟨o, its, n, hk, hc, hd, hs, hz, r⟩
  · obtain ⟨z, its, n, r, e⟩ := h.ok I.hok
    exact ⟨its, r, ⟨_, n, e, rfl, rfl, rfl⟩, z⟩
  · refine ⟨its.toList, r, ⟨o, n, I.kIn a o hk, hc, hd, by simpa using hs⟩, ?_⟩
    have e := r.length
    simp only [Array.length_toList] at e
    omega
theorem Inv.tuple (I : Inv X pins σ H s) (h : SqT X.K H a xs) : ∃ its : List Value, Vals xs its ∧ IsTup s.heap a its.toArray ∧ xs.length ≤ sizeLine := by
  rcases h with h | ⟨o, its, n, hk, hc, hs, hz, r⟩
  · obtain ⟨z, its, r, p⟩ := h.ok I.hok
    exact ⟨its, r, p, z⟩
  · refine ⟨its.toList, r, ⟨o, I.kIn a o hk, hc, n, by simpa using hs⟩, ?_⟩
    have e := r.length
    simp only [Array.length_toList] at e
    omega
theorem Inv.list_inj (I : Inv X pins σ H s) (h : SqL X.K H a xs) (h' : SqL X.K H a ys) : xs = ys := by
  obtain ⟨its, r, ⟨o, n, e, _, _, d⟩, _⟩ := I.list h
  obtain ⟨its', r', ⟨o', n', e', _, _, d'⟩, _⟩ := I.list h'
  rw [e] at e'; cases e'
  rw [d] at d'
  injection d' with d1 _
  have : its = its' := by simpa using congrArg Array.toList d1
  subst this
  exact r.inj r'
end

abbrev Cx.wish (X : Cx) (E : Value → Shared → Prop) : Cx := { X with xe := E }
/-- no exception leaves -/
abbrev Cx.nox (X : Cx) : Cx := X.wish fun _ _ => False
theorem Cx.Ok.wish {X : Cx} (ok : X.Ok) (E : Value → Shared → Prop) : (X.wish E).Ok :=
  ⟨ok.mod, ok.kind, ok.glob, ok.blt, ok.above, ok.inj, ok.has, ok.cab, ok.hd, ok.frames, ok.stk, ok.exf, ok.bs, ok.bsz, ok.noex, ok.exfs, ok.funs, ok.frf, ok.tb⟩
theorem Cx.Ok.unwish {X : Cx} {E : Value → Shared → Prop} (ok : (X.wish E).Ok) : X.Ok :=
  ⟨ok.mod, ok.kind, ok.glob, ok.blt, ok.above, ok.inj, ok.has, ok.cab, ok.hd, ok.frames, ok.stk, ok.exf, ok.bs, ok.bsz, ok.noex, ok.exfs, ok.funs, ok.frf, ok.tb⟩
section
variable {X : Cx} {pins : List (Addr × Obj)} {σ : St} {H : Hp} {s : Shared} {E : Value → Shared → Prop}
theorem Inv.wish (I : Inv X pins σ H s) (E : Value → Shared → Prop) : Inv (X.wish E) pins σ H s := ⟨I.ok.wish E, I.os, I.bare, I.base, I.loc, I.cell, I.free, I.freeC, I.pin, I.hok, I.len⟩
theorem Inv.unwish (I : Inv (X.wish E) pins σ H s) : Inv X pins σ H s := ⟨I.ok.unwish, I.os, I.bare, I.base, I.loc, I.cell, I.free, I.freeC, I.pin, I.hok, I.len⟩
theorem SP.unwish {D : Ends} {f : Flow} {s' : Shared} (h : SP (X.wish E) pins D f s') : SP X pins D f s' := by
  cases f with
  | next => obtain ⟨σ', H', I, q⟩ := h; exact ⟨σ', H', I.unwish, q⟩
  | brk => obtain ⟨σ', H', I, q⟩ := h; exact ⟨σ', H', I.unwish, q⟩
  | cont => obtain ⟨σ', H', I, q⟩ := h; exact ⟨σ', H', I.unwish, q⟩
  | ret u => obtain ⟨v, σ', H', I, r, q⟩ := h; exact ⟨v, σ', H', I.unwish, r, q⟩
theorem PE.nox {e : Expr} {t : TE} (h : PE X.nox e t) : PE X e t := fun pins s σ H Q I hw =>
  wpAny_mono (h pins s σ H Q (I.wish _) hw) (fun _ _ ⟨v, H', I', r, q⟩ => ⟨v, H', I'.unwish, r, q⟩) fun _ _ z => False.elim z
theorem PT.nox {e : Expr} {t : TT} (h : PT X.nox e t) : PT X e t := fun pins s σ H Q I hw =>
  wpAny_mono (h pins s σ H Q (I.wish _) hw) (fun _ _ ⟨H', I', q⟩ => ⟨H', I'.unwish, q⟩) fun _ _ z => False.elim z
theorem PSs.nox {st : List Stmt} {t : TS} (h : PSs X.nox st t) : PSs X st t := fun pins s σ H D I hw =>
  wpAny_mono (h pins s σ H D (I.wish _) hw) (fun _ _ q => q.unwish) fun _ _ z => False.elim z
end

section
variable {X : Cx} {st : Stmt} {rest : List Stmt} {t u : TS} {e : Expr} {te : TE} {pos : Pos}
def tNext : TS := fun D σ H => D.nx σ H
def tSeq (t u : TS) : TS := fun D σ H => t { D with nx := u D } σ H
theorem pss_nil : PSs X [] tNext := fun _ _ σ H _ I h => wpAny_execs_nil ⟨σ, H, I, h⟩
theorem pss_cons (h1 : PS X st t) (h2 : PSs X rest u) : PSs X (st :: rest) (tSeq t u) := by
  intro pins s σ H D I h
  refine wpAny_execs_cons (thn (h1 pins s σ H { D with nx := u D } I h) fun f s1 q => ?_)
  cases f with
  | next =>
    obtain ⟨σ', H', I', q⟩ := q
    exact h2 pins s1 σ' H' D I' q
  | ret v => exact q
  | brk => exact q
  | cont => exact q
theorem pss_one (h1 : PS X st t) : PSs X [st] t := by
  intro pins s σ H D I h
  refine wpAny_execs_cons (thn (h1 pins s σ H D I h) fun f s1 q => ?_)
  cases f with
  | next => exact wpAny_execs_nil q
  | ret v => exact q
  | brk => exact q
  | cont => exact q
/-- in a def's body nothing is shown -/
theorem Inv.quiet {pins : List (Addr × Obj)} {σ : St} {H : Hp} {s : Shared} (I : Inv X pins σ H s) : interactive X.env = false := by simp [interactive, I.ok.kind]
/-- an expression whose value is dropped -/
def tDrop (te : TE) : TS := fun D σ H => te σ H fun _ H1 => D.nx σ H1
theorem ps_expr (he : PE X e te) (hs : swapsWith e none pos.line X.env = pure false := by rfl) : PS X (.Expr e pos) (tDrop te) := by
  intro pins s σ H D I h
  exact wpAny_Expr_any (thn (he pins s σ H _ I h) fun v s1 ⟨x, H1, I1, r1, q1⟩ => ⟨σ, H1, I1, q1⟩) I.quiet hs
def tRet (te : TE) : TS := fun D σ H => te σ H D.rt
theorem ps_ret (he : PE X e te) : PS X (.Return (some e) pos) (tRet te) := by
  intro pins s σ H D I h
  exact wpAny_Return_some (thn (he pins s σ H _ I h) fun v s1 ⟨x, H1, I1, r1, q1⟩ => ⟨x, σ, H1, I1, r1, q1⟩)
def tIfS (c : TT) (t u : TS) : TS := fun D σ H => c σ H fun b H1 => if b = true then t D σ H1 else u D σ H1
theorem ps_if {c : Expr} {a b : List Stmt} {tc : TT} (hc : PT X c tc) (ha : PSs X a t) (hb : PSs X b u) : PS X (.If c a b pos) (tIfS tc t u) := by
  intro pins s σ H D I h
  refine wpAny_If (thn (hc pins s σ H _ I h) fun d s1 ⟨H1, I1, q1⟩ => ?_)
  cases d with
  | true => exact ha pins s1 σ H1 D I1 q1
  | false => exact hb pins s1 σ H1 D I1 q1
end

abbrev TG := V → St → Hp → (St → Hp → Prop) → Prop
abbrev TGs := List V → St → Hp → (St → Hp → Prop) → Prop
def PG (X : Cx) (target : Expr) (t : TG) : Prop :=
  ∀ (pins : List (Addr × Obj)) (s : Shared) (σ : St) (H : Hp) (v : V) (u : Value) (Q : St → Hp → Prop), Inv X pins σ H s → RelV v u → t v σ H Q →
    wpAny (model X.prog X.w) X.A (assign target X.env u) (fun _ s' => ∃ σ' H', Inv X pins σ' H' s' ∧ Q σ' H') X.xe s
/-- several targets, one after another -/
def PGs (X : Cx) (ts : List Expr) (t : TGs) : Prop :=
  ∀ (pins : List (Addr × Obj)) (s : Shared) (σ : St) (H : Hp) (vs : List V) (us : List Value) (Q : St → Hp → Prop), Inv X pins σ H s → Vals vs us → t vs σ H Q →
    wpAny (model X.prog X.w) X.A (assignInOrder ((assignEach ts X.env).map (·.2)) us) (fun _ s' => ∃ σ' H', Inv X pins σ' H' s' ∧ Q σ' H') X.xe s
/-- o[i] = v, by values -/
abbrev TSet := V → V → V → Hp → (Hp → Prop) → Prop
def PSet (X : Cx) (t : TSet) : Prop :=
  ∀ (pins : List (Addr × Obj)) (s : Shared) (σ : St) (H : Hp) (o i v : V) (ov iv u : Value) (Q : Hp → Prop), Inv X pins σ H s → RelV o ov → RelV i iv → RelV v u → t o i v H Q →
    wpAny (model X.prog X.w) X.A (setItem ov iv u) (fun _ s' => ∃ H', Inv X pins σ H' s' ∧ Q H') X.xe s
section
variable {X : Cx} {pos : Pos}
def gName (i : Nat) : TG := fun v σ H Q => Q (σ.set i (some v)) H
theorem pg_name {i : Nat} {x : Str} (hN : X.N.Nodup) (hi : X.N[i]? = some x) (hx : Loc X.env.scope x) (hf : X.fn x = true ∨ X.env.scope.names.lookup x = some .local := by first | exact .inl rfl | exact .inr rfl | assumption) : PG X (.Name x pos) (gName i) := by
  intro pins s σ H v u Q I r h
  exact wpAny_assign_Name (store_ok I hN hi hx r (fun s' I' => ⟨_, H, I', h⟩) hf)
def gNil : TGs := fun vs σ H Q => vs = [] ∧ Q σ H
def gCons (t : TG) (u : TGs) : TGs := fun vs σ H Q => ∃ v r, vs = v :: r ∧ t v σ H fun σ' H' => u r σ' H' Q
theorem pgs_nil : PGs X [] gNil := by
  intro pins s σ H vs us Q I r h
  obtain ⟨e, h⟩ := h
  subst e
  cases r
  exact assignInOrder_nil ⟨σ, H, I, h⟩
theorem pgs_cons {e : Expr} {es : List Expr} {t : TG} {u : TGs} (h1 : PG X e t) (h2 : PGs X es u)
    (hs : (assignEach (e :: es) X.env).map (·.2) = assign e X.env :: (assignEach es X.env).map (·.2) := by rfl) : PGs X (e :: es) (gCons t u) := by
  intro pins s σ H vs us Q I r h
  obtain ⟨v, vr, e1, h⟩ := h
  subst e1
  cases r with
  | cons r rr =>
    rw [hs]
    refine assignInOrder_cons (thn (h1 pins s σ H _ _ _ I r h) fun _ s1 ⟨σ1, H1, I1, q1⟩ => ?_)
    exact h2 pins s1 σ1 H1 _ _ Q I1 rr q1
/-- (a, b, ..) = a tuple of that length -/
def gTup (K : PySem.W.Frag) (n : Nat) (t : TGs) : TG := fun v σ H Q => ∃ a xs, v = .ref a ∧ SqT K H a xs ∧ xs.length = n ∧ t xs σ H Q
theorem pg_tup {es : List Expr} {k : Nat} {t : TGs} {n : Nat} (hc : X.calm = true) (h : PGs X es t)
    (hn : (assignEach es X.env).length = n := by rfl) (hst : (assignEach es X.env).findIdx? (·.1) = none := by rfl) : PG X (.Tuple es k pos) (gTup X.K n t) := by
  intro pins s σ H v u Q I r hw
  obtain ⟨a, xs, e1, hq, hl, hw⟩ := hw
  subst e1
  cases r
  obtain ⟨its, rv, ht, hz⟩ := I.tuple hq
  refine assign_Tuple_tuple (I.ok.hd hc) ht (by simp [hn, ← hl, rv.length]) hst fun h' hx => ?_
  have I1 : Inv X pins σ H { s with heap := h' } := I.kept (t' := s.toks) fun b o e => hx b o (Nat.ne_of_lt (Heap.lt_size e)) e
  exact h pins _ σ H xs _ Q I1 (by simpa using rv) hw
/-- o[i] = .. -/
def gSub (to ti : TE) (t : TSet) : TG := fun v σ H Q => to σ H fun o H1 => ti σ H1 fun i H2 => t o i v H2 fun H3 => Q σ H3
theorem pg_sub {o i : Expr} {to ti : TE} {t : TSet} (ho : PE X o to) (hi : PE X i ti) (hs : PSet X t)
    (ha : ∀ v, assign (.Subscript o i pos) X.env v = (do
      let ov ← holding [v] (eval o X.env)
      let iv ← holding [v, ov] (eval i X.env)
      standAt pos
      holding [v, ov, iv] (setItem ov iv v)
      release [v, ov, iv] []) := by intro _; rfl) : PG X (.Subscript o i pos) (gSub to ti t) := by
  intro pins s σ H v u Q I r h
  rw [ha]
  refine wpAny_bind (wpAny_holding (thn (ho pins s σ H _ I h) fun ov s1 ⟨x, H1, I1, r1, q1⟩ => ?_))
  refine wpAny_bind (wpAny_holding (thn (hi pins s1 σ H1 _ I1 q1) fun iv s2 ⟨y, H2, I2, r2, q2⟩ => ?_))
  refine wpAny_bind (wpAny_standAt (wpAny_bind (wpAny_holding (thn (hs pins s2 σ H2 x y v ov iv u _ I2 r1 r2 r q2) fun _ s3 ⟨H3, I3, q3⟩ => ?_))))
  exact wpAny_release ⟨σ, H3, I3, q3⟩
/-- target = value -/
def tAsg (te : TE) (g : TG) : TS := fun D σ H => te σ H fun x H1 => g x σ H1 D.nx
theorem ps_asg {tg e : Expr} {te : TE} {g : TG} (he : PE X e te) (hg : PG X tg g) (hs : swapsWithSole [tg] e pos.line X.env = pure false := by rfl) (hw : swappedStores [tg] e X.env = pure none := by rfl)
    (h1 : (assignEach [tg] X.env).map (·.2) = [assign tg X.env] := by rfl) : PS X (.Assign [tg] e pos) (tAsg te g) := by
  intro pins s σ H D I h
  refine wpAny_Assign_stores (thn (he pins s σ H _ I h) fun v s1 ⟨x, H1, I1, r1, q1⟩ => ?_) hs hw
  rw [h1]
  exact thn (hg pins s1 σ H1 x v _ I1 r1 q1) fun _ s2 q => q
/-- name = value -/
theorem ps_set {i : Nat} {x : Str} {e : Expr} {te : TE} {pos' : Pos} (hN : X.N.Nodup) (hi : X.N[i]? = some x) (hx : Loc X.env.scope x) (he : PE X e te) (hs : swapsWith e (some (.Name x pos')) pos.line X.env = pure false := by rfl) (hf : X.fn x = true ∨ X.env.scope.names.lookup x = some .local := by first | exact .inl rfl | exact .inr rfl | assumption) :
    PS X (.Assign [.Name x pos'] e pos) (tAsg te (gName i)) := by
  intro pins s σ H D I h
  refine wpAny_Assign_Name (thn (he pins s σ H _ I h) fun v s1 ⟨y, H1, I1, r1, q1⟩ => ?_) hs
  exact store_ok I1 hN hi hx r1 (fun s2 I2 => ⟨_, H1, I2, q1⟩) hf
/-- a, b = x, y with plain local names: stored from the right; the pair itself is not tracked (the opening rows as in PyProof/Rows/TupAssign.lean:23) -/
def tPar (i j : Nat) (ta : TA) : TS := fun D σ H => ta σ H fun vs H1 => ∃ v w, vs = [v, w] ∧ D.nx ((σ.set i (some v)).set j (some w)) H1
theorem ps_par {i j : Nat} {x y : Str} {a b : Expr} {ta : TA} {px py pt : Pos} {kt k2 pt2} (hc : X.calm = true) (hN : X.N.Nodup) (hi : X.N[i]? = some x) (hj : X.N[j]? = some y) (hij : i ≠ j)
    (hx : X.env.scope.names.lookup x = some .local) (hy : X.env.scope.names.lookup y = some .local) (ha : PA X [a, b] ta)
    (hw : swappedStores [.Tuple [.Name x px, .Name y py] kt pt] (.Tuple [a, b] k2 pt2) X.env = pure (some [x, y]))
    (hs : swapsWithSole [.Tuple [.Name x px, .Name y py] kt pt] (.Tuple [a, b] k2 pt2) pos.line X.env = pure false := by rfl) :
    PS X (.Assign [.Tuple [.Name x px, .Name y py] kt pt] (.Tuple [a, b] k2 pt2) pos) (tPar i j ta) := by
  intro pins s σ H D I h
  rw [exec_Assign_arm]
  refine wpAny_bind (wpAny_standAt ?_)
  rw [hs]
  refine wpAny_bind (wpAny_pure ?_)
  rw [if_neg (by decide)]
  refine wpAny_bind (Tuple_ (thn (ha _ pins s σ H _ I h) fun us s1 ⟨vs, H1, I1, r1, q1⟩ => ?_))
  obtain ⟨v, w, e1, q1⟩ := q1
  subst e1
  obtain ⟨u1, u2, rfl, rv, rw'⟩ : ∃ u1 u2, us = [u1, u2] ∧ RelV v u1 ∧ RelV w u2 := by
    cases r1 with
    | cons p q =>
      cases q with
      | cons p' q' =>
        cases q'
        exact ⟨_, _, rfl, p, p'⟩
  refine wpAny_newObj_type ?_ (by show 2 ≤ sizeLine; decide)
  have I2 : Inv X pins σ H1 { s1 with heap := s1.heap.push { cls := .type "tuple", data := .seq [u1, u2].toArray } } := I1.kept (t' := s1.toks) fun b o e => Heap.get?_push_of_some _ e
  rw [hw]
  refine wpAny_bind (wpAny_pure ?_)
  show wpAny (model X.prog X.w) X.A (do rule "assign.swapped-stores"; let items ← unpackItems (.ref s1.heap.objs.size) 2 none; assignInOrder [fun v => bindName X.env y v, fun v => bindName X.env x v] items.reverse; pure Flow.next) _ _ _
  refine wpAny_bind (wpAny_rule (wpAny_bind (unpackItems_tuple (items := #[u1, u2]) (I.ok.hd hc) (IsTup.new s1.heap _) fun h' hx' => ?_)))
  have I3 := I2.kept (h' := h') (t' := s1.toks) fun b o e => hx' b o (Nat.ne_of_lt (Heap.lt_size e)) e
  show wpAny _ _ (assignInOrder [fun v => bindName X.env y v, fun v => bindName X.env x v] [u2, u1] >>= fun _ => pure Flow.next) _ _ _
  refine wpAny_bind (assignInOrder_cons (wpAny_bindName (store_ok I3 hN hj (.inl hy) rw' (fun s2 I4 => ?_) (.inr hy))))
  refine assignInOrder_cons (wpAny_bindName (store_ok I4 hN hi (.inl hx) rv (fun s3 I5 => assignInOrder_nil (wpAny_pure ?_)) (.inr hx)))
  rw [List.set_comm _ _ (Ne.symm hij)] at I5
  exact ⟨_, H1, I5, q1⟩
end

section
variable {X : Cx} {pos : Pos}
/-- the invariant W with its measure -/
def tWhile (c : TT) (tb : TS) : TS := fun D σ H => ∃ W : Nat → St → Hp → Prop, (∃ m, W m σ H) ∧ ∀ m σ H, W m σ H →
  c σ H fun b H1 => if b = true then ∃ N : St → Hp → Prop, (∀ σ' H', N σ' H' → ∃ m', m' < m ∧ W m' σ' H') ∧ tb { D with nx := N, ct := N, bk := D.nx } σ H1 else D.nx σ H1
theorem ps_while {c : Expr} {body : List Stmt} {tc : TT} {tb : TS} (hp : PassesOwn (model X.prog X.w) X.A X.env X.xe) (hc : PT X c tc) (hb : PSs X body tb) : PS X (.While c body [] pos) (tWhile tc tb) := by
  intro pins s σ H D I h
  obtain ⟨W, ⟨m0, w0⟩, turn⟩ := h
  refine wpAny_While (codeAny_whileLoop (fun n s' => ∃ σ' H', Inv X pins σ' H' s' ∧ W n σ' H') ?_ m0 ⟨σ, H, I, w0⟩)
  rintro n s1 ⟨σ1, H1, I1, w1⟩
  refine wpAny_passesOwn hp (thn (hc pins s1 σ1 H1 _ I1 (turn n σ1 H1 w1)) fun b s2 ⟨H2, I2, q2⟩ => ?_)
  cases b with
  | true =>
    obtain ⟨N, hN, q2⟩ := q2
    rw [if_pos rfl]
    refine wpAny_passesOwn hp (thn (hb pins s2 σ1 H2 _ I2 q2) fun f s3 q3 => ?_)
    cases f with
    | next =>
      obtain ⟨σ3, H3, I3, n3⟩ := q3
      obtain ⟨m', hm, w3⟩ := hN σ3 H3 n3
      exact ⟨m', hm, σ3, H3, I3, w3⟩
    | cont =>
      obtain ⟨σ3, H3, I3, n3⟩ := q3
      obtain ⟨m', hm, w3⟩ := hN σ3 H3 n3
      exact ⟨m', hm, σ3, H3, I3, w3⟩
    | brk => exact q3
    | ret v => exact q3
  | false =>
    rw [if_neg Bool.false_ne_true]
    exact wpAny_execs_nil ⟨σ1, H2, I2, q2⟩
end

/-- at turn i: it yields x (the heap may grow), or it stops -/
structure It where
  go : Nat → Hp → Prop
  yld : Nat → Hp → V → Hp → Prop
  stop : Nat → Hp → Prop
/-- the iterator's own objects may turn: they are not the frame's, not pinned, younger than the entry (or a comprehension's own) -/
def FpOk (X : Cx) (pins : List (Addr × Obj)) (H : Hp) (b : Addr) : Prop :=
  H b = none ∧ b ≠ X.env.locals ∧ b ∉ X.fs ∧ (b ∈ X.ex ∨ X.s_0.heap.objs.size ≤ b) ∧ (∀ x c, X.env.cells.lookup x = some c → c ≠ b) ∧ ∀ p ∈ X.pn ++ pins, p.1 ≠ b
theorem Inv.fpOk {X : Cx} {pins : List (Addr × Obj)} {σ : St} {H H' : Hp} {s : Shared} {b : Addr} (I : Inv X pins σ H s) (hb : s.heap.objs.size ≤ b) (hn : H' b = none) : FpOk X pins H' b := by
  refine ⟨hn, Nat.ne_of_gt (Nat.lt_of_lt_of_le I.lt hb), I.nofs hb, .inr (Nat.le_trans I.sz hb), fun x c e z => ?_, fun p hp z => ?_⟩
  · obtain ⟨v, q⟩ := I.cell x c e
    exact absurd (Nat.lt_of_lt_of_le q.lt (by rw [z]; exact hb)) (Nat.lt_irrefl _)
  · exact absurd (Nat.lt_of_lt_of_le (Heap.lt_size (I.pin p hp).1) (by rw [z]; exact hb)) (Nat.lt_irrefl _)
structure Turn (P : Program) (w : World) (K : PySem.W.Frag) (tg : Expr) (J : It) (fp : List Addr) (it : Addr) (tn : Nat → Heap → Prop) : Prop where
  mem : it ∈ fp
  obj : ∀ i h, tn i h → ∀ b ∈ fp, ∃ o, h.get? b = some o ∧ ∀ v, o.data ≠ .cell v
  keep : ∀ i h h', tn i h → (∀ b ∈ fp, ∀ o, h.get? b = some o → h'.get? b = some o) → tn i h'
  item : ∀ (X : Cx), X.prog = P → X.w = w → X.K = K → X.calm = true → ∀ (i : Nat) (pins : List (Addr × Obj)) (s : Shared) (σ : St) (H : Hp) (E : Value → Shared → Prop), Inv X pins σ H s → (∀ b ∈ fp, FpOk X pins H b) → tn i s.heap → J.go i H →
    wpAny (model P w) X.A (pyNext (.ref it)) (fun r s1 => ∃ u, r = some u ∧
      wpAny (model P w) X.A (letOwnedTupleGo tg (.ref it) u) (fun _ s2 => ∃ x H', Inv X pins σ H' s2 ∧ RelV x u ∧ J.yld i H x H' ∧ tn (i + 1) s2.heap ∧ ∀ b ∈ fp, H' b = none) E s1) E s
  done : ∀ (X : Cx), X.prog = P → X.w = w → X.K = K → X.calm = true → ∀ (i : Nat) (pins : List (Addr × Obj)) (s : Shared) (σ : St) (H : Hp) (E : Value → Shared → Prop), Inv X pins σ H s → (∀ b ∈ fp, FpOk X pins H b) → tn i s.heap → J.stop i H →
    wpAny (model P w) X.A (pyNext (.ref it)) (fun r s1 => r = none ∧ Inv X pins σ H s1) E s
  self : ∀ (A : Around) (i : Nat) (s : Shared) (Q : Value → Shared → Prop) (E : Value → Shared → Prop), tn i s.heap → Q (.ref it) s → wpAny (model P w) A (pyIter (.ref it)) Q E s
abbrev TI := St → Hp → (It → Hp → Prop) → Prop
/-- an iterator has come -/
def PIE (X : Cx) (pins : List (Addr × Obj)) (σ : St) (tg : Expr) (R : It → Hp → Prop) (itv : Value) (s2 : Shared) : Prop :=
  ∃ (it : Addr) (fp : List Addr) (tn : Nat → Heap → Prop) (J : It) (H' : Hp), itv = .ref it ∧ Inv X pins σ H' s2 ∧ Turn X.prog X.w X.K tg J fp it tn ∧ tn 0 s2.heap ∧ (∀ b ∈ fp, FpOk X pins H' b) ∧ R J H'
def PI (X : Cx) (tg iter : Expr) (wi : TI) : Prop :=
  ∀ (pins : List (Addr × Obj)) (s : Shared) (σ : St) (H : Hp) (R : It → Hp → Prop), Inv X pins σ H s → wi σ H R →
    wpAny (model X.prog X.w) X.A (eval iter X.env) (fun v s1 => wpAny (model X.prog X.w) X.A (pyIter v) (PIE X pins σ tg R) X.xe s1) X.xe s

/-- the step ahead of the store is nothing for an iterator that keeps no tuple -/
theorem go_of {M : Model} {A : Around} {E : Value → Shared → Prop} {s : Shared} {tg : Expr} {it : Addr} {u : Value} {o : Obj} {n : String} {vs : Array Value} {Q : Unit → Shared → Prop} (ho : s.heap.get? it = some o) (hc : o.cls = .type n) (hd : o.data = .fields vs)
    (hn : ["enumerate", "zip", "dict_itemiterator", "dict_reverseitemiterator", "odict_iterator", "itertools.zip_longest", "itertools.pairwise"].contains n = false) (hQ : Q () s) : wpAny M A (letOwnedTupleGo tg (.ref it) u) Q E s := by
  unfold letOwnedTupleGo
  cases tg <;> first
    | exact wpAny_pure hQ
    | (cases u <;> first
        | exact wpAny_pure hQ
        | (refine wpAny_bind (wpAny_load ho ?_)
           rw [hc, hd]
           show wpAny M A (if (["enumerate", "zip", "dict_itemiterator", "dict_reverseitemiterator", "odict_iterator", "itertools.zip_longest", "itertools.pairwise"].contains n && vs[0]? == some (rawInt _)) = true then _ else _) Q E s
           rw [if_neg (by intro h; rw [hn, Bool.false_and] at h; cases h)]
           exact wpAny_pure hQ))

/-- the list at a, as it stands at each turn (a loop may append to it) -/
def Itl (K : PySem.W.Frag) (a : Addr) : It :=
  ⟨fun i H => ∃ xs x, SqL K H a xs ∧ xs[i]? = some x, fun i H x H' => H' = H ∧ ∀ xs, SqL K H a xs → xs[i]? = some x, fun i H => ∃ xs, SqL K H a xs ∧ xs.length ≤ i⟩
/-- lo, lo + 1, .. (n of them) -/
def Itr (lo : Int) (n : Nat) : It := ⟨fun i _ => i < n, fun i H x H' => H' = H ∧ x = .int (lo + i), fun i _ => n ≤ i⟩
theorem turn_list {P : Program} {w : World} {K : PySem.W.Frag} {tg : Expr} (a it : Addr) : Turn P w K tg (Itl K a) [it] it (fun i h => h.IsListIter it a i) where
  mem := by simp
  obj := fun i h st b hb => by
    have e : b = it := by simpa using hb
    subst e
    obtain ⟨o, e, c, d⟩ := st
    exact ⟨o, e, fun v z => by rw [d] at z; cases z⟩
  keep := fun i h h' st k => st.at fun o e => k it (by simp) o e
  item := by
    intro X hP hw hK hc i pins s σ H E I hf st hg
    subst hP hw hK
    obtain ⟨xs, x, hq, hx⟩ := hg
    obtain ⟨its, rv, p, hz⟩ := I.list hq
    obtain ⟨u, hu, ru⟩ := rv.get hx
    obtain ⟨f0, f1, f2, f3, f4, f5⟩ := hf it (by simp)
    refine wpAny_pyNext_list_item st p.isList (x := u) (by simpa using hu) fun h' st' sb => ?_
    have I1 : Inv X pins σ H { s with heap := h' } := I.turned (t' := s.toks) (fun b o hb e => (sb.2 b hb).trans e) f0 f1 f3 f4 f5
    obtain ⟨o, e, c, d⟩ := id st'
    exact ⟨u, rfl, go_of (s := { s with heap := h' }) e c d (by decide) ⟨x, H, I1, ru, ⟨rfl, fun ys hy => by rw [I.list_inj hy hq]; exact hx⟩, st', fun b hb => (hf b hb).1⟩⟩
  done := by
    intro X hP hw hK hc i pins s σ H E I hf st hg
    subst hP hw hK
    obtain ⟨xs, hq, hx⟩ := hg
    obtain ⟨its, rv, p, hz⟩ := I.list hq
    obtain ⟨f0, f1, f2, f3, f4, f5⟩ := hf it (by simp)
    have hl := rv.length
    exact wpAny_pyNext_list_end (I.ok.hd hc) st p.isList (by simp; omega) fun h' eb => ⟨rfl, I.turned (t' := s.toks) (fun b o hb e => eb b o hb e) f0 f1 f3 f4 f5⟩
  self := fun _ _ _ _ _ st h => wpAny_pyIter_listiter st h
theorem turn_range {P : Program} {w : World} {K : PySem.W.Frag} {tg : Expr} (it : Addr) (lo : Int) (n : Nat) : Turn P w K tg (Itr lo n) [it] it (fun i h => IsRangeIter h it (lo + (i : Nat) * 1) ((n : Int) - (i : Nat)) 1) where
  mem := by simp
  obj := fun i h st b hb => by
    have e : b = it := by simpa using hb
    subst e
    exact ⟨_, st, fun v z => by
      have z' : Data.fields _ = Data.cell v := z
      cases z'⟩
  keep := fun i h h' st k => k it (by simp) _ st
  item := by
    intro X hP hw hK hc i pins s σ H E I hf st hg
    subst hP hw hK
    obtain ⟨f0, f1, f2, f3, f4, f5⟩ := hf it (by simp)
    have W := Walks.range (prog := X.prog) (w := X.w) (I.ok.hd hc) it lo 1 n
    refine W.item i s _ _ hg st fun v h' tk hv st' kk => ?_
    obtain ⟨t, rfl⟩ := hv
    have I1 : Inv X pins σ H { s with heap := h', toks := tk } := I.turned (fun b o hb e => kk b o (by simpa using hb) e) f0 f1 f3 f4 f5
    refine ⟨_, rfl, go_of (s := { s with heap := h', toks := tk }) (n := "range_iterator") st' rfl rfl (by decide) ⟨.int (lo + i), H, I1, ⟨t, ?_⟩, ⟨rfl, rfl⟩, st', fun b hb => (hf b hb).1⟩⟩
    rw [Int.mul_one]
  done := by
    intro X hP hw hK hc i pins s σ H E I hf st hg
    subst hP hw hK
    obtain ⟨f0, f1, f2, f3, f4, f5⟩ := hf it (by simp)
    exact wpAny_pyNext_range_end (I.ok.hd hc) st (by have : n ≤ i := hg; omega) fun h' eb => ⟨rfl, I.turned (t' := s.toks) (fun b o hb e => eb b o hb e) f0 f1 f3 f4 f5⟩
  self := fun _ _ _ _ _ st h => wpAny_pyIter_rangeiter st h
end L2

namespace L2
open PySem PySem.Spec PyProof.Rows
section
variable {X : Cx} {tg : Expr}
def iList (K : PySem.W.Frag) (tl : TE) : TI := fun σ H R => tl σ H fun x H1 => ∃ a, x = .ref a ∧ (∃ xs, SqL K H1 a xs) ∧ R (Itl K a) H1
theorem pi_list {l : Expr} {tl : TE} (hl : PE X l tl) : PI X tg l (iList X.K tl) := by
  intro pins s σ H R I h
  refine thn (hl pins s σ H _ I h) fun v s1 ⟨x, H1, I1, r1, q1⟩ => ?_
  obtain ⟨a, e, ⟨xs, hq⟩, q⟩ := q1
  subst e
  cases r1
  obtain ⟨its, rv, p, hz⟩ := I1.list hq
  refine wpAny_pyIter_list p.isList ?_
  refine ⟨s1.heap.objs.size, [s1.heap.objs.size], _, _, H1, rfl, I1.kept (t' := s1.toks) fun b o e => Heap.get?_push_of_some _ e, turn_list a _, ⟨_, Heap.get?_push_size _ rfl, rfl, rfl⟩, fun b hb => ?_, q⟩
  have e : b = s1.heap.objs.size := by simpa using hb
  subst e
  exact I1.fpOk (Nat.le_refl _) (I1.hok.fresh (Nat.le_refl _))
/-- a range object just made, walked -/
theorem range_it {pins : List (Addr × Obj)} {σ : St} {H : Hp} {s : Shared} {R : It → Hp → Prop} {E : Value → Shared → Prop} {lo hi : Int} {t u v : Tok} {tk : Nat} (I : Inv X pins σ H s) (h1 : -(2 ^ 62) ≤ lo) (h2 : lo < 2 ^ 62) (h3 : -(2 ^ 62) ≤ hi) (h4 : hi < 2 ^ 62)
    (q : R (Itr lo (hi - lo).toNat) H) : wpAny (model X.prog X.w) X.A (pyIter (.ref s.heap.objs.size)) (PIE X pins σ tg R) E { s with heap := s.heap.push { cls := .type "range", data := .fields #[.int lo t, .int hi u, .int 1 v] }, toks := tk } := by
  refine wpAny_pyIter_range (IsRange.new ..) (small_one h1 h2 h3 h4) ?_
  have I1 : Inv X pins σ H { s with heap := s.heap.push { cls := .type "range", data := .fields #[.int lo t, .int hi u, .int 1 v] }, toks := tk } := I.kept fun b o e => Heap.get?_push_of_some _ e
  refine ⟨(s.heap.push { cls := .type "range", data := .fields #[.int lo t, .int hi u, .int 1 v] }).objs.size, [(s.heap.push { cls := .type "range", data := .fields #[.int lo t, .int hi u, .int 1 v] }).objs.size], _, _, H, rfl,
    I1.kept (t' := tk) fun b o e => Heap.get?_push_of_some _ e, turn_range _ lo (hi - lo).toNat, ?_, fun b hb => ?_, q⟩
  · have e1 : lo + ((0 : Nat) : Int) * 1 = lo := by simp
    have e2 : (((hi - lo).toNat : Nat) : Int) - ((0 : Nat) : Int) = Builtin.Range.rangeSize lo hi 1 := by rw [rangeSize_one]; split <;> omega
    show IsRangeIter _ _ (lo + ((0 : Nat) : Int) * 1) ((((hi - lo).toNat : Nat) : Int) - ((0 : Nat) : Int)) 1
    rw [e1, e2]
    exact Heap.get?_push_size _ rfl
  · have e : b = (s.heap.push { cls := .type "range", data := .fields #[.int lo t, .int hi u, .int 1 v] }).objs.size := by simpa using hb
    subst e
    exact I1.fpOk (Nat.le_refl _) (I1.hok.fresh (Nat.le_refl _))
def iRng1 (ta : TA) : TI := fun σ H R => ta σ H fun vs H1 => ∃ j : Int, vs = [.int j] ∧ -(2 ^ 62) ≤ j ∧ j < 2 ^ 62 ∧ R (Itr 0 j.toNat) H1
theorem pi_range1 {a : Expr} {ta : TA} {p pos : Pos} (hg : Gl X "range") (hm : X.mg "range" = none) (ha : PA X [a] ta) (hs : starEach [a] X.env = [(false, eval a X.env)] := by rfl) : PI X tg (.Call (.Name "range" p) [a] [] pos) (iRng1 ta) := by
  intro pins s σ H R I h
  refine Call_ (ld_blt I hg hm boot_range (PyProof.Rows.callWith_type1 (thn (ha pos pins s σ H _ I h) fun us s1 ⟨vs, H1, I1, r1, q1⟩ => ?_) hs rfl))
  obtain ⟨j, e, q1, q2, q⟩ := q1
  subst e
  cases r1 with
  | cons r rr =>
    cases rr
    obtain ⟨t, rfl⟩ := r
    exact call_range_1 (range_it I1 (by omega) (by omega) q1 q2 (by simpa using q))
/-- W: the invariant by the turn and a measure; N: what the body is to reach -/
def tFor (wi : TI) (g : TG) (tb : TS) : TS := fun D σ H => wi σ H fun J H1 => ∃ W : Nat → Nat → St → Hp → Prop, (∃ m, W 0 m σ H1) ∧ ∀ i m σ H, W i m σ H →
  (J.stop i H ∧ D.nx σ H) ∨ (J.go i H ∧ ∃ N : St → Hp → Prop, (∀ σ' H', N σ' H' → ∃ m', m' < m ∧ W (i + 1) m' σ' H') ∧ ∀ x H', J.yld i H x H' → g x σ H' fun σ2 H2 => tb { D with nx := N, ct := N, bk := D.nx } σ2 H2)
/-- the records at fp as they stand -/
def pinsAt (fp : List Addr) (h : Heap) : List (Addr × Obj) := fp.filterMap fun b => (h.get? b).map fun o => (b, o)
theorem mem_pinsAt {fp : List Addr} {h : Heap} {b : Addr} {o : Obj} (hb : b ∈ fp) (e : h.get? b = some o) : (b, o) ∈ pinsAt fp h := List.mem_filterMap.mpr ⟨b, hb, by rw [e]; rfl⟩
theorem of_pinsAt {fp : List Addr} {h : Heap} {p : Addr × Obj} (hp : p ∈ pinsAt fp h) : p.1 ∈ fp ∧ h.get? p.1 = some p.2 := by
  obtain ⟨b, hb, e⟩ := List.mem_filterMap.mp hp
  cases q : h.get? b with
  | none => rw [q] at e; cases e
  | some o =>
    rw [q] at e
    have e' : (b, o) = p := Option.some.inj e
    subst e'
    exact ⟨hb, q⟩
theorem Inv.pinned {pins : List (Addr × Obj)} {σ : St} {H : Hp} {s : Shared} {fp : List Addr} (I : Inv X pins σ H s) (hf : ∀ b ∈ fp, FpOk X pins H b) (ho : ∀ b ∈ fp, ∃ o, s.heap.get? b = some o ∧ ∀ v, o.data ≠ .cell v) : Inv X (pins ++ pinsAt fp s.heap) σ H s :=
  I.pins_of fun p hp => (List.mem_append.mp hp).elim (fun z => I.pin p (List.mem_append_right _ z)) fun z => by
    obtain ⟨hb, e⟩ := of_pinsAt z
    obtain ⟨f0, f1, f2, _⟩ := hf p.1 hb
    obtain ⟨o, e', d⟩ := ho p.1 hb
    rw [e] at e'; cases e'
    exact ⟨e, f0, f1, f2, d⟩
theorem Inv.unpinned {pins pl : List (Addr × Obj)} {σ : St} {H : Hp} {s : Shared} (I : Inv X (pins ++ pl) σ H s) : Inv X pins σ H s := I.pins_of fun p hp => I.pin p (List.mem_append_right _ (List.mem_append_left _ hp))
theorem ps_for {iter : Expr} {body : List Stmt} {wi : TI} {g : TG} {tb : TS} {pos : Pos} (hp : PassesOwn (model X.prog X.w) X.A X.env X.xe) (hc : X.calm = true) (hi : PI X tg iter wi) (hg : PG X tg g) (hb : PSs X body tb)
    (hs : ∀ x, foldedSetIterable iter X.env x = pure x := by intro _; rfl) : PS X (.For tg iter body [] pos) (tFor wi g tb) := by
  intro pins s σ H D I h
  refine wpAny_For (thn (hi pins s σ H _ I h) fun v s1 h1 => thn h1 fun itv s2 h2 => ?_) hs
  obtain ⟨it, fp, tn, J, H2, e, I2, T, st2, f2, W, ⟨m0, w0⟩, turn⟩ := h2
  subst e
  -- what stays true of the iterator's objects through the loop
  have stat : ∀ {H' : Hp}, (∀ b ∈ fp, H' b = none) → ∀ b ∈ fp, FpOk X pins H' b := fun hn b hb => ⟨hn b hb, (f2 b hb).2⟩
  refine codeAny_forLoop_any (fun n s' => ∃ i σ' H', Inv X pins σ' H' s' ∧ tn i s'.heap ∧ (∀ b ∈ fp, H' b = none) ∧ W i n σ' H') ?_ m0 ⟨0, σ, H2, I2, st2, fun b hb => (f2 b hb).1, w0⟩
  rintro n s3 ⟨i, σ3, H3, I3, st3, fr3, w3⟩
  rcases turn i n σ3 H3 w3 with ⟨stop, qn⟩ | ⟨go, N, hN, step⟩
  · refine wpAny_passesOwn hp (thn (T.done X rfl rfl rfl hc i pins s3 σ3 H3 X.xe I3 (stat fr3) st3 stop) fun r s4 ⟨hr, I4⟩ => ?_)
    subst hr
    exact wpAny_execs_nil ⟨σ3, H3, I4, qn⟩
  · refine wpAny_passesOwn hp (thn (T.item X rfl rfl rfl hc i pins s3 σ3 H3 X.xe I3 (stat fr3) st3 go) fun r s4 ⟨u, hr, h4⟩ => ?_)
    subst hr
    refine wpAny_passesOwn hp (thn h4 fun _ s5 ⟨x, H5, I5, r5, y5, st5, fr5⟩ => ?_)
    have I5' := I5.pinned (stat fr5) (T.obj _ _ st5)
    refine wpAny_passesOwn hp (thn (hg _ s5 σ3 H5 x u _ I5' r5 (step x H5 y5)) fun _ s6 ⟨σ6, H6, I6, q6⟩ => ?_)
    refine wpAny_passesOwn hp (thn (hb _ s6 σ6 H6 _ I6 q6) fun f s7 q7 => ?_)
    have again : ∀ {σ7 : St} {H7 : Hp}, Inv X (pins ++ pinsAt fp s5.heap) σ7 H7 s7 → N σ7 H7 → ∃ m, m < n ∧ ∃ i σ' H', Inv X pins σ' H' s7 ∧ tn i s7.heap ∧ (∀ b ∈ fp, H' b = none) ∧ W i m σ' H' := fun {σ7 H7} I7 n7 => by
      obtain ⟨m', hm, w7⟩ := hN σ7 H7 n7
      refine ⟨m', hm, i + 1, σ7, H7, I7.unpinned, T.keep _ _ _ st5 fun b hb o e => (I7.pin (b, o) (List.mem_append_right _ (List.mem_append_right _ (mem_pinsAt hb e)))).1, fun b hb => ?_, w7⟩
      obtain ⟨o, e, d⟩ := T.obj _ _ st5 b hb
      exact (I7.pin (b, o) (List.mem_append_right _ (List.mem_append_right _ (mem_pinsAt hb e)))).2.1
    cases f with
    | next => obtain ⟨σ7, H7, I7, n7⟩ := q7; exact again I7 n7
    | cont => obtain ⟨σ7, H7, I7, n7⟩ := q7; exact again I7 n7
    | brk => obtain ⟨σ7, H7, I7, q7⟩ := q7; exact ⟨σ7, H7, I7.unpinned, q7⟩
    | ret v => obtain ⟨x7, σ7, H7, I7, r7, q7⟩ := q7; exact ⟨x7, σ7, H7, I7.unpinned, r7, q7⟩
end

/-- over a list that the body leaves as it is -/
theorem for_list {K : PySem.W.Frag} {a : Addr} {xs : List V} {g : TG} {tb : TS} {D : Ends} {σ : St} {H : Hp} (Pv : Nat → St → Hp → Prop) (h0 : Pv 0 σ H) (hl : ∀ i σ H, i ≤ xs.length → Pv i σ H → SqL K H a xs)
    (hs : ∀ i x σ H, xs[i]? = some x → Pv i σ H → g x σ H fun σ2 H2 => tb { D with nx := Pv (i + 1), ct := Pv (i + 1), bk := D.nx } σ2 H2) (hd : ∀ σ H, Pv xs.length σ H → D.nx σ H) :
    ∃ W : Nat → Nat → St → Hp → Prop, (∃ m, W 0 m σ H) ∧ ∀ i m σ H, W i m σ H →
      ((Itl K a).stop i H ∧ D.nx σ H) ∨ ((Itl K a).go i H ∧ ∃ N : St → Hp → Prop, (∀ σ' H', N σ' H' → ∃ m', m' < m ∧ W (i + 1) m' σ' H') ∧ ∀ x H', (Itl K a).yld i H x H' → g x σ H' fun σ2 H2 => tb { D with nx := N, ct := N, bk := D.nx } σ2 H2) := by
  refine ⟨fun i m σ H => m = xs.length - i ∧ i ≤ xs.length ∧ Pv i σ H, ⟨xs.length, by simp, Nat.zero_le _, h0⟩, ?_⟩
  rintro i m σ H ⟨rfl, hi, p⟩
  have q := hl i σ H hi p
  by_cases hlt : i < xs.length
  · refine .inr ⟨⟨xs, xs[i], q, by simp [hlt]⟩, Pv (i + 1), fun σ' H' p' => ⟨xs.length - (i + 1), by omega, rfl, hlt, p'⟩, fun x H' y => ?_⟩
    obtain ⟨e, y⟩ := y
    subst e
    exact hs i x σ _ (y xs q) p
  · have e : i = xs.length := by omega
    subst e
    exact .inl ⟨⟨xs, q, Nat.le_refl _⟩, hd σ H p⟩
theorem for_range {lo : Int} {n : Nat} {g : TG} {tb : TS} {D : Ends} {σ : St} {H : Hp} (Pv : Nat → St → Hp → Prop) (h0 : Pv 0 σ H)
    (hs : ∀ i σ H, i < n → Pv i σ H → g (.int (lo + i)) σ H fun σ2 H2 => tb { D with nx := Pv (i + 1), ct := Pv (i + 1), bk := D.nx } σ2 H2) (hd : ∀ σ H, Pv n σ H → D.nx σ H) :
    ∃ W : Nat → Nat → St → Hp → Prop, (∃ m, W 0 m σ H) ∧ ∀ i m σ H, W i m σ H →
      ((Itr lo n).stop i H ∧ D.nx σ H) ∨ ((Itr lo n).go i H ∧ ∃ N : St → Hp → Prop, (∀ σ' H', N σ' H' → ∃ m', m' < m ∧ W (i + 1) m' σ' H') ∧ ∀ x H', (Itr lo n).yld i H x H' → g x σ H' fun σ2 H2 => tb { D with nx := N, ct := N, bk := D.nx } σ2 H2) := by
  refine ⟨fun i m σ H => m = n - i ∧ i ≤ n ∧ Pv i σ H, ⟨n, by simp, Nat.zero_le _, h0⟩, ?_⟩
  rintro i m σ H ⟨rfl, hi, p⟩
  by_cases hlt : i < n
  · refine .inr ⟨hlt, Pv (i + 1), fun σ' H' p' => ⟨n - (i + 1), by omega, rfl, hlt, p'⟩, fun x H' y => ?_⟩
    obtain ⟨e, y⟩ := y
    subst e y
    exact hs i σ _ hlt p
  · have e : i = n := by omega
    subst e
    exact .inl ⟨Nat.le_refl _, hd σ H p⟩
end L2

namespace L2
open PySem PySem.Spec PyProof.Rows

abbrev R2 := V → V → Hp → VK → Prop
/-- a two-place operation on values: f is binaryOp op, inplaceOp op or compareOp op -/
def OpR (X : Cx) (f : Value → Value → Sem Value) (r : R2) : Prop :=
  ∀ (pins : List (Addr × Obj)) (s : Shared) (σ : St) (H : Hp) (x y : V) (v u : Value) (Q : VK), Inv X pins σ H s → RelV x v → RelV y u → r x y H Q →
    wpAny (model X.prog X.w) X.A (f v u) (EP X pins σ Q) X.xe s
/-- a one-place operation -/
def UnR (X : Cx) (f : Value → Sem Value) (r : V → Hp → VK → Prop) : Prop :=
  ∀ (pins : List (Addr × Obj)) (s : Shared) (σ : St) (H : Hp) (x : V) (v : Value) (Q : VK), Inv X pins σ H s → RelV x v → r x H Q →
    wpAny (model X.prog X.w) X.A (f v) (EP X pins σ Q) X.xe s
/-- a call of a value that is known (a builtin, a type) with values -/
def CallR (X : Cx) (f : Value) (r : List V → Hp → VK → Prop) : Prop :=
  ∀ (pins : List (Addr × Obj)) (s : Shared) (σ : St) (H : Hp) (xs : List V) (us : List Value) (Q : VK), Inv X pins σ H s → Vals xs us → r xs H Q →
    wpAny (model X.prog X.w) X.A (call f us) (EP X pins σ Q) X.xe s
def tOp (r : R2) (ta tb : TE) : TE := fun σ H Q => ta σ H fun x H1 => tb σ H1 fun y H2 => r x y H2 Q
def tUn (r : V → Hp → VK → Prop) (ta : TE) : TE := fun σ H Q => ta σ H fun x H1 => r x H1 Q
/-- ints in, under C, and a value out -/
def rI (C : Int → Int → Prop) (g : Int → Int → V) : R2 := fun x y H Q => ∃ i j, x = .int i ∧ y = .int j ∧ C i j ∧ Q (g i j) H
def rI0 (g : Int → Int → V) : R2 := fun x y H Q => ∃ i j, x = .int i ∧ y = .int j ∧ Q (g i j) H
def rU (g : Int → V) : V → Hp → VK → Prop := fun x H Q => ∃ i, x = .int i ∧ Q (g i) H

section
variable {X : Cx} {a b c : Expr} {ta tb tc : TE} {pos : Pos}

theorem binT (ha : PE X a ta) (hb : PE X b tb) {pins : List (Addr × Obj)} {s : Shared} {σ : St} {H : Hp} {R : V → V → Hp → Prop} (I : Inv X pins σ H s)
    (h : ta σ H fun x H1 => tb σ H1 fun y H2 => R x y H2) {Q : Value → Shared → Prop} {f : Value → Value → Sem Value}
    (hf : ∀ v u s2 x y H2, Inv X pins σ H2 s2 → RelV x v → RelV y u → R x y H2 → wpAny (model X.prog X.w) X.A (f v u) Q X.xe s2) :
    wpAny (model X.prog X.w) X.A (eval a X.env) (fun v s₁ => wpAny (model X.prog X.w) X.A (eval b X.env) (fun u s₂ => wpAny (model X.prog X.w) X.A (f v u) Q X.xe s₂) X.xe s₁) X.xe s := by
  refine thn (ha pins s σ H _ I h) fun v s1 ⟨x, H1, I1, r1, q1⟩ => ?_
  refine thn (hb pins s1 σ H1 _ I1 q1) fun u s2 ⟨y, H2, I2, r2, q2⟩ => ?_
  exact hf v u s2 x y H2 I2 r1 r2 q2

theorem pe_op {op : Operator} {r : R2} (ho : OpR X (binaryOp op) r) (ha : PE X a ta) (hb : PE X b tb) : PE X (.BinOp a op b pos) (tOp r ta tb) := by
  intro pins s σ H Q I h
  exact wpAny_BinOp (binT ha hb I h fun v u s2 x y H2 I2 rx ry q => ho pins s2 σ H2 x y v u Q I2 rx ry q)
theorem pe_un {op : UnaryOp} {r : V → Hp → VK → Prop} (ho : UnR X (unaryOp op) r) (ha : PE X a ta) : PE X (.UnaryOp op a pos) (tUn r ta) := by
  intro pins s σ H Q I h
  exact UnaryOp_ (thn (ha pins s σ H _ I h) fun v s1 ⟨x, H1, I1, r1, q1⟩ => ho pins s1 σ H1 x v Q I1 r1 q1)
theorem opI {f : Value → Value → Sem Value} {C : Int → Int → Prop} {g : Int → Int → Int}
    (rule : ∀ (i j : Int) (t u : Tok) (s : Shared) (Q : Value → Shared → Prop) (E : Value → Shared → Prop), C i j → Q (.int (g i j) s.toks) { s with toks := s.toks + 1 } → wpAny (model X.prog X.w) X.A (f (.int i t) (.int j u)) Q E s) :
    OpR X f (rI C fun i j => .int (g i j)) := by
  intro pins s σ H x y v u Q I rx ry h
  obtain ⟨i, j, rfl, rfl, hc, q⟩ := h
  obtain ⟨t, rfl⟩ := rx
  obtain ⟨t', rfl⟩ := ry
  exact rule i j t t' s _ _ hc ⟨.int (g i j), H, I.tok _, ⟨_, rfl⟩, q⟩
theorem opI0 {f : Value → Value → Sem Value} {g : Int → Int → Int}
    (rule : ∀ (i j : Int) (t u : Tok) (s : Shared) (Q : Value → Shared → Prop) (E : Value → Shared → Prop), Q (.int (g i j) s.toks) { s with toks := s.toks + 1 } → wpAny (model X.prog X.w) X.A (f (.int i t) (.int j u)) Q E s) :
    OpR X f (rI0 fun i j => .int (g i j)) := by
  intro pins s σ H x y v u Q I rx ry h
  obtain ⟨i, j, rfl, rfl, q⟩ := h
  obtain ⟨t, rfl⟩ := rx
  obtain ⟨t', rfl⟩ := ry
  exact rule i j t t' s _ _ ⟨.int (g i j), H, I.tok _, ⟨_, rfl⟩, q⟩
theorem opB0 {f : Value → Value → Sem Value} {g : Int → Int → Bool}
    (rule : ∀ (i j : Int) (t u : Tok) (s : Shared) (Q : Value → Shared → Prop) (E : Value → Shared → Prop), Q (.bool (g i j)) s → wpAny (model X.prog X.w) X.A (f (.int i t) (.int j u)) Q E s) :
    OpR X f (rI0 fun i j => .bl (g i j)) := by
  intro pins s σ H x y v u Q I rx ry h
  obtain ⟨i, j, rfl, rfl, q⟩ := h
  obtain ⟨t, rfl⟩ := rx
  obtain ⟨t', rfl⟩ := ry
  exact rule i j t t' s _ _ ⟨.bl (g i j), H, I, rfl, q⟩

def CDiv (i j : Int) : Prop := 0 < j ∧ j < 1073741824
def CPow (i j : Int) : Prop := 0 ≤ j ∧ j ≤ 1000000 ∧ i.natAbs < 2 ^ 64
def CMul (i j : Int) : Prop := (-(2 ^ 64) < i ∧ i < 2 ^ 64) ∨ (-(2 ^ 64) < j ∧ j < 2 ^ 64)
theorem CMul.ok {i j : Int} (h : CMul i j) : IntMulOk i j := by
  rcases h with ⟨h1, h2⟩ | ⟨h1, h2⟩
  · exact .of_left (intBits_le_64 h1 h2)
  · exact .of_right (intBits_le_64 h1 h2)
theorem op_add : OpR X (binaryOp .Add) (rI0 fun i j => .int (i + j)) := opI0 fun _ _ _ _ _ _ _ q => add_int q
theorem op_sub : OpR X (binaryOp .Sub) (rI0 fun i j => .int (i - j)) := opI0 fun _ _ _ _ _ _ _ q => sub_int q
theorem op_mul : OpR X (binaryOp .Mult) (rI CMul fun i j => .int (i * j)) := opI fun _ _ _ _ _ _ _ hc q => mul_int q hc.ok
/-- // by a positive divisor -/
theorem op_fdiv : OpR X (binaryOp .FloorDiv) (rI CDiv fun i j => .int (i / j)) := opI fun i j _ _ _ _ _ hc q => by
  have h1 : (0 : Int) < j := hc.1
  have h2 : j < 1073741824 := hc.2
  exact floordiv_int (by omega) (by rw [Int.fdiv_eq_ediv_of_nonneg i (by omega)]; exact q) (.inl (PyProof.noPylong_small (by omega)))
/-- % by a positive divisor of any size -/
theorem op_mod : OpR X (binaryOp .Mod) (rI (fun _ j => 0 < j) fun i j => .int (i % j)) := opI fun i j _ _ _ _ _ hc q => by
  have h1 : (0 : Int) < j := hc
  exact mod_int' (by omega) (by rw [Int.fmod_eq_emod_of_nonneg i (by omega)]; exact q)
theorem op_pow : OpR X (binaryOp .Pow) (rI CPow fun i j => .int (i ^ j.toNat)) := opI fun _ _ _ _ _ _ _ hc q => pow_int_small hc.1 hc.2.1 hc.2.2 q
theorem unI {f : Value → Sem Value} {g : Int → Int}
    (rule : ∀ (i : Int) (t : Tok) (s : Shared) (Q : Value → Shared → Prop) (E : Value → Shared → Prop), Q (.int (g i) s.toks) { s with toks := s.toks + 1 } → wpAny (model X.prog X.w) X.A (f (.int i t)) Q E s) :
    UnR X f (rU fun i => .int (g i)) := by
  intro pins s σ H x v Q I rx h
  obtain ⟨i, rfl, q⟩ := h
  obtain ⟨t, rfl⟩ := rx
  exact rule i t s _ _ ⟨.int (g i), H, I.tok _, ⟨_, rfl⟩, q⟩
theorem un_neg : UnR X (unaryOp .USub) (rU fun i => .int (-i)) := unI fun _ _ _ _ _ q => neg_int q
end

/-- the scalars that == tells apart as data does -/
def scal : V → V → Bool
  | .non, .non => true | .non, .int _ => true | .int _, .non => true | .non, .bl _ => true | .bl _, .non => true | .non, .str _ => true | .str _, .non => true
  | .int _, .int _ => true | .bl _, .bl _ => true | .str _, .str _ => true | .byt _, .byt _ => true
  | .int _, .str _ => true | .str _, .int _ => true | .bl _, .str _ => true | .str _, .bl _ => true
  | _, _ => false
def rEq : R2 := fun x y H Q => scal x y = true ∧ Q (.bl (decide (x = y))) H
theorem dec_int {i j : Int} : decide (V.int i = V.int j) = (i == j) := by
  rw [Bool.eq_iff_iff]
  simp
theorem dec_bl {i j : Bool} : decide (V.bl i = V.bl j) = (i == j) := by
  rw [Bool.eq_iff_iff]
  simp
theorem dec_str {i j : Str} : decide (V.str i = V.str j) = (i == j) := by
  rw [Bool.eq_iff_iff]
  simp
theorem dec_byt {i j : Array UInt8} : decide (V.byt i = V.byt j) = (i.toList == j.toList) := by
  rw [Bool.eq_iff_iff]
  cases i
  cases j
  simp

section
variable {X : Cx} {a b c : Expr} {ta tb tc : TE} {pos : Pos}
theorem fin_bl {pins : List (Addr × Obj)} {σ : St} {H : Hp} {s : Shared} {Q : VK} {k k' : Bool} (I : Inv X pins σ H s) (q : Q (.bl k) H) (e : k = k') : EP X pins σ Q (.bool k') s := by
  subst e
  exact ⟨.bl k, H, I, rfl, q⟩
theorem op_eq : OpR X (compareOp .Eq) rEq := by
  intro pins s σ H x y v u Q I rx ry h
  obtain ⟨hs, q⟩ := h
  cases x with
  | non =>
    cases rx
    cases y with
    | non => cases ry; exact PySem.EqNone.eq_none_none (fin_bl I q (by simp))
    | bl j => cases ry; exact PySem.EqNone.eq_none_bool (fin_bl I q (by simp))
    | int j => obtain ⟨t', rfl⟩ := ry; exact PySem.EqNone.eq_none_int (fin_bl I q (by simp))
    | str j => obtain ⟨t', rfl⟩ := ry; exact PySem.EqNone.eq_none_str (fin_bl I q (by simp))
    | _ => exact absurd (show false = true from hs) Bool.false_ne_true
  | bl i =>
    cases rx
    cases y with
    | non => cases ry; exact PySem.EqNone.eq_bool_none (fin_bl I q (by simp))
    | bl j => cases ry; exact eq_bool (fin_bl I q dec_bl)
    | str j => obtain ⟨t', rfl⟩ := ry; exact PySem.EqMixed.eq_bool_str (fin_bl I q (by simp))
    | _ => exact absurd (show false = true from hs) Bool.false_ne_true
  | int i =>
    obtain ⟨t, rfl⟩ := rx
    cases y with
    | non => cases ry; exact PySem.EqNone.eq_int_none (fin_bl I q (by simp))
    | int j => obtain ⟨t', rfl⟩ := ry; exact eq_int (fin_bl I q dec_int)
    | str j => obtain ⟨t', rfl⟩ := ry; exact PySem.EqMixed.eq_int_str (fin_bl I q (by simp))
    | _ => exact absurd (show false = true from hs) Bool.false_ne_true
  | str i =>
    obtain ⟨t, rfl⟩ := rx
    cases y with
    | non => cases ry; exact PySem.EqNone.eq_str_none (fin_bl I q (by simp))
    | bl j => cases ry; exact PySem.EqMixed.eq_str_bool (fin_bl I q (by simp))
    | int j => obtain ⟨t', rfl⟩ := ry; exact PySem.EqMixed.eq_str_int (fin_bl I q (by simp))
    | str j => obtain ⟨t', rfl⟩ := ry; exact eq_str (fin_bl I q dec_str)
    | _ => exact absurd (show false = true from hs) Bool.false_ne_true
  | byt i =>
    obtain ⟨t, rfl⟩ := rx
    cases y with
    | byt j => obtain ⟨t', rfl⟩ := ry; exact PySem.W.eq_bytes (fin_bl I q dec_byt)
    | _ => exact absurd (show false = true from hs) Bool.false_ne_true
  | _ => cases y <;> exact absurd (show false = true from hs) Bool.false_ne_true
theorem op_lt : OpR X (compareOp .Lt) (rI0 fun i j => .bl (decide (i < j))) := opB0 fun _ _ _ _ _ _ _ q => lt_int q
theorem op_gt : OpR X (compareOp .Gt) (rI0 fun i j => .bl (decide (j < i))) := opB0 fun _ _ _ _ _ _ _ q => gt_int q
theorem op_ge : OpR X (compareOp .GtE) (rI0 fun i j => .bl (decide (j ≤ i))) := opB0 fun _ _ _ _ _ _ _ q => ge_int q
theorem op_notN : OpR X (compareOp .IsNot) (fun x y H Q => y = .non ∧ Q (.bl (!decide (x = .non))) H) := by
  intro pins s σ H x y v u Q I rx ry h
  obtain ⟨rfl, q⟩ := h
  cases ry
  refine isnot_none_gen (fin_bl I q ?_)
  cases x <;> first
    | (cases rx; rfl)
    | (obtain ⟨t, rfl⟩ := rx; rfl)

/-- two rules for one operation: by cases -/
theorem OpR.or {f : Value → Value → Sem Value} {r r' : R2} (h : OpR X f r) (h' : OpR X f r') : OpR X f (fun x y H Q => r x y H Q ∨ r' x y H Q) := by
  intro pins s σ H x y v u Q I rx ry q
  rcases q with q | q
  · exact h pins s σ H x y v u Q I rx ry q
  · exact h' pins s σ H x y v u Q I rx ry q

theorem nomark (b : Expr) {op : CmpOp} (h : op ≠ .In := by decide) (h2 : op ≠ .NotIn := by decide) : behindInMarks op b = false := by
  have e1 : (op == CmpOp.In) = false := by cases op <;> first | rfl | exact absurd rfl h
  have e2 : (op == CmpOp.NotIn) = false := by cases op <;> first | rfl | exact absurd rfl h2
  cases b <;> simp [behindInMarks, e1, e2]
/-- a comparison as a value; hm: nomark b, or (for in, not in) by with_unfolding_all rfl -/
theorem pe_cmpR {op : CmpOp} {r : R2} (ho : OpR X (compareOp op) r) (ha : PE X a ta) (hb : PE X b tb) (hm : behindInMarks op b = false) : PE X (.Compare a [op] [b] pos) (tOp r ta tb) := by
  intro pins s σ H Q I h
  exact wpAny_Compare1 (binT ha hb I h fun v u s2 x y H2 I2 rx ry q => ho pins s2 σ H2 x y v u Q I2 rx ry q) hm
/-- a reading of a value as a test -/
def tTest (t : TE) : TT := fun σ H Q => t σ H fun x H' => ∃ k, x = .bl k ∧ Q k H'
theorem pt_cmpR {op : CmpOp} {r : R2} (ho : OpR X (compareOp op) r) (ha : PE X a ta) (hb : PE X b tb) (hm : behindInMarks op b = false) : PT X (.Compare a [op] [b] pos) (tTest (tOp r ta tb)) := by
  intro pins s σ H Q I h
  refine wpAny_isTrue_Compare1 (thn (ha pins s σ H _ I h) fun v s1 ⟨x, H1, I1, r1, q1⟩ => thn (hb pins s1 σ H1 _ I1 q1) fun u s2 ⟨y, H2, I2, r2, q2⟩ =>
    thn (ho pins s2 σ H2 x y v u _ I2 r1 r2 q2) fun c s3 ⟨z, H3, I3, r3, k, e, q3⟩ => ?_) hm
  subst e
  cases r3
  exact wpAny_truthy_bool ⟨H3, I3, q3⟩
theorem line63 : (sizeLine : Nat) < 2 ^ 63 := by rw [sizeLine_eq]; decide
theorem vals1 {x : V} {us : List Value} (r : Vals [x] us) : ∃ u, us = [u] ∧ RelV x u := by
  cases r with
  | cons r1 r2 => cases r2; exact ⟨_, rfl, r1⟩
theorem vals2 {x y : V} {us : List Value} (r : Vals [x, y] us) : ∃ u w', us = [u, w'] ∧ RelV x u ∧ RelV y w' := by
  cases r with
  | cons r1 r2 =>
    cases r2 with
    | cons r3 r4 => cases r4; exact ⟨_, _, rfl, r1, r3⟩
theorem call_abs : CallR X (.builtin "abs") (fun xs H Q => ∃ i, xs = [.int i] ∧ Q (.int (if i < 0 then -i else i)) H) := by
  intro pins s σ H xs us Q I r h
  obtain ⟨i, rfl, q⟩ := h
  obtain ⟨u, rfl, t, rfl⟩ := vals1 r
  exact call_abs_int fun u tk => ⟨.int (if i < 0 then -i else i), H, I.tok _, ⟨_, rfl⟩, q⟩
theorem call_max2 (hc : X.calm = true) : CallR X (.builtin "max") (fun xs H Q => ∃ i j, xs = [.int i, .int j] ∧ Q (.int (if j > i then j else i)) H) := by
  intro pins s σ H xs us Q I r h
  obtain ⟨i, j, rfl, q⟩ := h
  obtain ⟨u, w', rfl, ⟨t, rfl⟩, ⟨t', rfl⟩⟩ := vals2 r
  refine max_two_ints (I.ok.hd hc) fun h' tk k => ⟨_, H, I.kept k, ?_, q⟩
  by_cases hj : j > i
  · rw [if_pos hj, if_pos hj]; exact ⟨_, rfl⟩
  · rw [if_neg hj, if_neg hj]; exact ⟨_, rfl⟩
theorem call_min2 (hc : X.calm = true) : CallR X (.builtin "min") (fun xs H Q => ∃ i j, xs = [.int i, .int j] ∧ Q (.int (if j < i then j else i)) H) := by
  intro pins s σ H xs us Q I r h
  obtain ⟨i, j, rfl, q⟩ := h
  obtain ⟨u, w', rfl, ⟨t, rfl⟩, ⟨t', rfl⟩⟩ := vals2 r
  refine min_two_ints (I.ok.hd hc) fun h' tk k => ⟨_, H, I.kept k, ?_, q⟩
  by_cases hj : j < i
  · rw [if_pos hj, if_pos hj]; exact ⟨_, rfl⟩
  · rw [if_neg hj, if_neg hj]; exact ⟨_, rfl⟩
theorem call_int1 : CallR X (.type "int") (fun xs H Q => (∃ i, xs = [.int i] ∧ Q (.int i) H) ∨ ∃ k, xs = [.bl k] ∧ Q (.int (if k then 1 else 0)) H) := by
  intro pins s σ H xs us Q I r h
  rcases h with ⟨i, rfl, q⟩ | ⟨k, rfl, q⟩
  · obtain ⟨u, rfl, t, rfl⟩ := vals1 r
    exact call_int_int ⟨.int i, H, I, ⟨_, rfl⟩, q⟩
  · obtain ⟨u, rfl, r1⟩ := vals1 r
    cases r1
    exact call_int_bool ⟨.int (if k then 1 else 0), H, I.tok _, ⟨_, rfl⟩, q⟩
end
end L2

namespace L2
open PySem PySem.Spec PyProof.Rows

structure ObjM (h : Heap) (x dx C : Addr) (mA : Str → Option Value) : Prop where
  obj : h.get? x = some (PySem.W.instObj C dx)
  ns : h.Ns1 dx mA
  ne : dx ≠ x

theorem lookIn_ns {h : Heap} {dx : Addr} {mA : Str → Option Value} (n : h.Ns1 dx mA) : ∃ od, h.get? dx = some od ∧ ∀ name, PySem.W.lookIn name od = some (mA name) := by
  obtain ⟨o, es, ep, ho, hd, hk, _, hm⟩ := n
  refine ⟨o, ho, fun name => ?_⟩
  have e := hm name
  unfold nsFind findBy at e
  rw [← Array.find?_toList] at e
  unfold PySem.W.lookIn
  rw [hd]
  dsimp only
  split
  · rename_i y q
    rw [q] at e
    exact congrArg some e
  · rename_i q
    rw [q] at e
    have a : es.toList.any (·.refKey) = false := by
      rw [List.any_eq_false]
      intro y hy
      obtain ⟨z, t, hkey⟩ := hk y (Array.mem_toList_iff.mp hy)
      simp [DictEntry.refKey, hkey]
    have a' : ¬ es.toList.any (·.refKey) = true := by rw [a]; exact Bool.false_ne_true
    rw [if_neg a']
    exact congrArg some e

theorem ObjM.look {h : Heap} {x dx C : Addr} {mA : Str → Option Value} (I : ObjM h x dx C mA) : ∃ od, PySem.W.InstAt h x (PySem.W.instObj C dx) C (some od) ∧ ∀ name, PySem.W.lookIn name od = some (mA name) :=
  let ⟨od, ho, hl⟩ := lookIn_ns I.ns
  ⟨od, ⟨I.obj, rfl, rfl, ho⟩, hl⟩

section
variable {prog : Program} {w : World} {A : Around} {E : Value → Shared → Prop} {s : Shared} {K : PySem.W.Frag} {x dx C f : Addr} {mA : Str → Option Value} {name : Str} {v : Value}

end

section
variable {P : Program} {w : World} {H H' : Hp} {h h' : Heap} {a C dx : Addr} {fs fs' : List (Str × V)}
theorem ins_get (hok : HOk P w H h) (e : H a = some (.ins C dx fs)) : ∃ mA, ObjM h a dx C mA ∧ (∀ f, RelO (fs.lookup f) (mA f)) ∧ PySem.Within mA (fs.map (·.1)) ∧ fs.length ≤ 1000 ∧ H dx = some (.own a) := by
  obtain ⟨d, z, ne, ob, mA, n, r, q⟩ := (show ObjOk P w H h a (.ins C dx fs) from hok a _ e)
  exact ⟨mA, ⟨ob, n, ne⟩, r, q, z, d⟩
end

structure Cls (K : PySem.W.Frag) (C : Addr) : Prop where
  pg : PySem.W.plainGet K C Str.empty = true
  hd : PySem.W.hasDictIn K C = true
  po : PySem.W.plainOver K C = true
  sa : PySem.W.findIn K (.ref C) "__setattr__" = some (some (.builtin "object.__setattr__"))
theorem Cls.get {K : PySem.W.Frag} {C : Addr} (c : Cls K C) (f : Str) : PySem.W.plainGet K C f = true := c.pg
/-- a constant of the class -/
structure Con (K : PySem.W.Frag) (C : Addr) (f : Str) (v : V) (u : Value) : Prop where
  at_ : PySem.W.findIn K (.ref C) f = some (some u)
  rel : RelV v u
  get : PySem.W.specialIn K u "__get__" = some none
  cp : PySem.W.copiedNames.contains f = false
/-- a method: a plain def of the class or of one above it -/
structure Meth (K : PySem.W.Frag) (C : Addr) (m : Str) (f : Addr) : Prop where
  at_ : PySem.W.findIn K (.ref C) m = some (some (.ref f))
  fn : PySem.W.isFn K (.ref f) = true
  kp : PySem.W.keepIn K (.ref f) = true

section
variable {X : Cx} {pins : List (Addr × Obj)} {σ : St} {H : Hp} {s : Shared} {a C dx : Addr} {fs : List (Str × V)} {f : Str} {v : V} {A : Around} {E : Value → Shared → Prop}

/-- a new instance, tracked, without attributes -/
theorem Inv.made (I : Inv X pins σ H s) : Inv X pins σ (upd (upd H s.heap.objs.size (.own (s.heap.objs.size + 1))) (s.heap.objs.size + 1) (.ins C s.heap.objs.size []))
    { s with heap := (s.heap.push PySem.W.emptyDict).push (PySem.W.instObj C s.heap.objs.size) } := by
  have e1 : (s.heap.push PySem.W.emptyDict).get? s.heap.objs.size = some PySem.W.emptyDict := Heap.get?_push_size s.heap rfl
  have e2 : ((s.heap.push PySem.W.emptyDict).push (PySem.W.instObj C s.heap.objs.size)).get? (s.heap.objs.size + 1) = some (PySem.W.instObj C s.heap.objs.size) := by
    have := Heap.get?_push_size (s.heap.push PySem.W.emptyDict) (o := PySem.W.instObj C s.heap.objs.size) rfl
    rwa [Heap.size_push] at this
  have e3 : (s.heap.push PySem.W.emptyDict).Ns s.heap.objs.size (fun _ => none) := ⟨PySem.W.emptyDict, #[], _, e1, rfl, (fun e he => absurd he (by simp)), fun _ => rfl⟩
  have I1 := I.laid (a := s.heap.objs.size) (o := .own (s.heap.objs.size + 1)) (h' := s.heap.push PySem.W.emptyDict) (t' := s.toks) (fun b u q => Heap.get?_push_of_some _ q) (Nat.le_refl _) ⟨_, e1⟩
  refine I1.laid (a := s.heap.objs.size + 1) (o := .ins C s.heap.objs.size []) (t' := s.toks) (fun b u q => Heap.get?_push_of_some _ q) (Nat.le_of_eq (Heap.size_push _ _)) ?_
  have ne : s.heap.objs.size ≠ s.heap.objs.size + 1 := Nat.ne_of_lt (Nat.lt_succ_self _)
  refine ⟨by rw [upd_ne ne, upd_same], Nat.zero_le _, ne, e2, fun _ => none, (Heap.Ns1.of_empty e3).at fun o q => Heap.get?_push_of_some _ q, fun _ => True.intro, fun y hy => absurd rfl hy⟩

end

section
variable {X : Cx} {o e value : Expr} {f : Str} {pos pos' tpos : Pos} {ta tv : TE}
end

section
variable {X : Cx} {pins : List (Addr × Obj)} {σ : St} {H : Hp} {s : Shared} {A : Around} {E : Value → Shared → Prop} {Q : Value → Shared → Prop} {c : Value} {b : Bool}
/-- the type of a value, as the fragment's deciders take it; for an instance its class -/
inductive TyOf (K : PySem.W.Frag) (H : Hp) : V → Value → Prop where
  | non : TyOf K H .non (.type "NoneType")
  | bl (x : Bool) : TyOf K H (.bl x) (.type "bool")
  | int (i : Int) : TyOf K H (.int i) (.type "int")
  | str (x : Str) : TyOf K H (.str x) (.type "str")
  | flt (x : UInt64) : TyOf K H (.flt x) (.type "float")
  | lst {a : Addr} {xs : List V} (e : H a = some (.lst xs)) : TyOf K H (.ref a) (.type "list")
  | frz {a : Addr} {o : Obj} {xs : List V} (e : H a = some (.frz o (.lst xs))) : TyOf K H (.ref a) (.type "list")
  | tup {a : Addr} {xs : List V} (e : H a = some (.tup xs)) : TyOf K H (.ref a) (.type "tuple")
  | dK {a : Addr} {kvs : List (Key × V)} (e : H a = some (.dK kvs)) : TyOf K H (.ref a) (.type "dict")
  | dT {a : Addr} {kvs : List (List Key × V)} (e : H a = some (.dT kvs)) : TyOf K H (.ref a) (.type "dict")
  | ins {a C dx : Addr} {fs : List (Str × V)} (e : H a = some (.ins C dx fs)) (cl : Cls K C) (ha : PySem.W.findIn K (.ref C) "__class__" = some (some (.builtin "object.__class__")))
      (hn : PySem.W.specialIn K (.builtin "object.__class__") "__get__" = some (some (.builtin "getset_descriptor.__get__"))) (htk : PySem.W.takesIn K (.builtin "object.__class__") = some true)
      (hm : PySem.W.mroIn K C (.type "object") = some true) : TyOf K H (.ref a) (.ref C)
/-- isinstance(x, c) for one class c, a built-in or an own one: kitOne's answer -/
theorem isinst_ok {x : V} {u t : Value} (I : Inv X pins σ H s) (rx : RelV x u) (ty : TyOf X.K H x t) (e : PySem.W.kitOne X.K t c = some b) (h : ∀ tk, Q (.bool b) { s with toks := tk }) :
    wpAny (model X.prog X.w) A (call (.builtin "isinstance") [u, c]) Q E s := by
  cases ty with
  | non => cases (show u = Value.none from rx); exact PySem.W.kia_one PySem.W.kitx_none I.kIn True.intro e (fun z => nomatch z) h
  | bl y => cases (show u = Value.bool y from rx); exact PySem.W.kia_one PySem.W.kitx_bool I.kIn True.intro e (fun z => nomatch z) h
  | int i => obtain ⟨t, q⟩ := (show ∃ t, u = Value.int i t from rx); cases q; exact PySem.W.kia_one PySem.W.kitx_int I.kIn True.intro e (fun z => nomatch z) h
  | str y => obtain ⟨t, q⟩ := (show ∃ t, u = Value.str y t from rx); cases q; exact PySem.W.kia_one PySem.W.kitx_str I.kIn True.intro e (fun z => nomatch z) h
  | flt y => obtain ⟨t, q⟩ := (show ∃ t, u = Value.float y t from rx); cases q; exact PySem.W.kia_one PySem.W.kitx_float I.kIn True.intro e (fun z => nomatch z) h
  | @lst a xs ea =>
    cases (show u = Value.ref a from rx)
    obtain ⟨_, _, n, _, h1⟩ := (show ObjOk X.prog X.w H s.heap a (.lst xs) from I.hok a _ ea)
    exact PySem.W.kia_one PySem.W.kitx_list I.kIn ⟨_, h1, rfl⟩ e (fun z => nomatch z) h
  | @frz a ob xs ea =>
    cases (show u = Value.ref a from rx)
    obtain ⟨_, _, _, n, _, h1⟩ := (show ObjOk X.prog X.w H s.heap a (.frz ob (.lst xs)) from I.hok a _ ea)
    exact PySem.W.kia_one PySem.W.kitx_list I.kIn ⟨_, h1, rfl⟩ e (fun z => nomatch z) h
  | @tup a xs ea =>
    cases (show u = Value.ref a from rx)
    obtain ⟨_, _, _, p⟩ := (show ObjOk X.prog X.w H s.heap a (.tup xs) from I.hok a _ ea)
    obtain ⟨o, h1, h2, _⟩ := p
    exact PySem.W.kia_one PySem.W.kitx_tuple I.kIn ⟨o, h1, h2⟩ e (fun z => nomatch z) h
  | @dK a kvs ea =>
    cases (show u = Value.ref a from rx)
    obtain ⟨_, _, vs, _, p⟩ := (show ObjOk X.prog X.w H s.heap a (.dK kvs) from I.hok a _ ea)
    obtain ⟨o, es, ep, h1, h2, _⟩ := p
    exact PySem.W.kia_one PySem.W.kitx_dict I.kIn ⟨o, h1, h2.1⟩ e (fun z => nomatch z) h
  | @dT a kvs ea =>
    cases (show u = Value.ref a from rx)
    obtain ⟨_, _, xs, _, o, es, ep, h1, h2, _⟩ := (show ObjOk X.prog X.w H s.heap a (.dT kvs) from I.hok a _ ea)
    exact PySem.W.kia_one PySem.W.kitx_dict I.kIn ⟨o, h1, h2.1⟩ e (fun z => nomatch z) h
  | @ins a C dx fs ea cl ha hn htk hm =>
    cases (show u = Value.ref a from rx)
    obtain ⟨mA, O, _⟩ := ins_get I.hok ea
    obtain ⟨od, J, _⟩ := O.look
    exact PySem.W.kia_one (PySem.W.kitx_own (cl.get _) cl.hd ha hn htk hm) I.kIn J e (fun z => nomatch z) h
end
end L2

namespace L2
open PySem PySem.Spec PyProof.Rows

structure Room (k : Nat) (A : Around) : Prop where
  hd : A.handled = none
  dp : A.depth + 3 * k + 5 < recursionLimit
  un : A.units + 16 * k + 200 < cLine
  gd : A.guards = some []
theorem Room.mono {j k : Nat} {A : Around} (r : Room k A) (h : j ≤ k) : Room j A := ⟨r.hd, by have := r.dp; omega, by have := r.un; omega, r.gd⟩
theorem Room.deeper {k : Nat} {A : Around} (r : Room (k + 1) A) (env : Env) : Room k (A.deeper env) :=
  ⟨r.hd, by have := r.dp; show A.depth + 1 + 3 * k + 5 < _; omega, by have := r.un; show A.units + 3 + 16 * k + 200 < _; omega, r.gd⟩
theorem Room.depth {k : Nat} {A : Around} (r : Room k A) : A.depth < recursionLimit := by have := r.dp; omega
theorem Room.units {k : Nat} {A : Around} (r : Room k A) : A.units + 64 < cLine := by have := r.un; omega
def tNil : TA := fun _ H Q => Q [] H
def tCons (ta : TE) (tr : TA) : TA := fun σ H Q => ta σ H fun x H1 => tr σ H1 fun xs H2 => Q (x :: xs) H2
section
variable {X : Cx} {e : Expr} {es : List Expr} {te : TE} {t : TA} {pos : Pos}
theorem pa_nil : PA X [] tNil := fun _ _ _ _ H Q I h => Calls.spliced_nil ⟨[], H, I, .nil, h⟩
theorem pa_cons (ha : PE X e te) (hr : PA X es t) (hs : starEach (e :: es) X.env = (false, eval e X.env) :: starEach es X.env := by rfl) : PA X (e :: es) (tCons te t) := by
  intro pos pins s σ H Q I h
  rw [hs]
  show wpAny _ _ (spliced ((false, eval e X.env) :: backTo pos (starEach es X.env))) _ _ s
  refine Calls.spliced_cons (thn (ha pins s σ H _ I h) fun u s1 ⟨x, H1, I1, r1, q1⟩ => ?_)
  exact thn (hr pos pins s1 σ H1 _ I1 q1) fun us s2 ⟨xs, H2, I2, r2, q2⟩ => ⟨x :: xs, H2, I2, .cons r1 r2, q2⟩

/-- a tuple, a list of written items -/
def tTup (t : TA) : TE := fun σ H Q => t σ H fun xs H1 => xs.length ≤ sizeLine ∧ ∀ p, H1 p = none → Q (.ref p) (upd H1 p (.tup xs))
def tLst (t : TA) : TE := fun σ H Q => t σ H fun xs H1 => xs.length ≤ sizeLine ∧ ∀ p, H1 p = none → Q (.ref p) (upd H1 p (.lst xs))
theorem pe_tup {x1} (h : PA X es t) : PE X (.Tuple es x1 pos) (tTup t) := by
  intro pins s σ H Q I hq
  refine wpAny_Tuple_spliced (thn (h pos pins s σ H _ I hq) fun us s1 ⟨xs, H1, I1, r, z, q⟩ => ⟨by rw [← r.length]; exact z, ?_⟩)
  have hf : H1 s1.heap.objs.size = none := I1.hok.fresh (Nat.le_refl _)
  refine ⟨.ref s1.heap.objs.size, upd H1 s1.heap.objs.size (.tup xs), I1.laid (t' := s1.toks) (fun b u e => Heap.get?_push_of_some _ e) (Nat.le_refl _) ?_, rfl, q _ hf⟩
  exact ⟨z, us, r, ⟨_, Heap.get?_push_size _ rfl, rfl, _, rfl⟩⟩
theorem pe_lst (h : PA X es t) : PE X (.List es pos) (tLst t) := by
  intro pins s σ H Q I hq
  refine wpAny_List_spliced (thn (h pos pins s σ H _ I hq) fun us s1 ⟨xs, H1, I1, r, z, q⟩ => ⟨by rw [← r.length]; exact z, ?_⟩)
  have hf : H1 s1.heap.objs.size = none := I1.hok.fresh (Nat.le_refl _)
  refine ⟨.ref s1.heap.objs.size, upd H1 s1.heap.objs.size (.lst xs), I1.laid (t' := s1.toks) (fun b u e => Heap.get?_push_of_some _ e) (Nat.le_refl _) ?_, rfl, q _ hf⟩
  exact ⟨z, us, 0, r, Heap.get?_push_size _ rfl⟩
end

/-- a def's promise: the bound arguments in the parameters' order, the heap, the wanted end, the wanted exception -/
abbrev Sp := List V → Hp → VK → XK → Prop
/-- how an exception lies behind a call (file 08 gives it): the callers' frames, abstract heap and state ahead of the call, the wish, the exception, the state -/
abbrev CXT := List Env → Hp → Shared → XK → Value → Shared → Prop

/-- the state at a call -/
structure Env0 (P : Program) (w : World) (K : PySem.W.Frag) (mg : Str → Option Value) (base : Heap) (A : Around) (outer : List Env) (s : Shared) (H : Hp) : Prop where
  frames : A.frames = some outer
  mod : Mod K mg base
  bs : ∀ b o, base.get? b = some o → s.heap.get? b = some o ∧ H b = none
  bsz : base.objs.size ≤ s.heap.objs.size
  funs : s.heap.FunFrames base outer
  frf : ∀ b ∈ frs outer, H b = none
  hok : HOk P w H s.heap
  bare : AllBare s.gens
  tb : Tabs P K mg H
/-- a call's end -/
def CE (outer : List Env) (P : Program) (w : World) (H : Hp) (s : Shared) (Q : VK) (u : Value) (s' : Shared) : Prop :=
  ∃ v H', s'.os = s.os ∧ BareG s.gens s'.gens ∧ Un (frs outer) [] H H' s.heap s'.heap ∧ HOk P w H' s'.heap ∧ RelV v u ∧ Q v H'
def CR (CX : CXT) (outer : List Env) (P : Program) (w : World) (H : Hp) (s : Shared) (Q : VK) (E : XK) (r : Result) (s' : Shared) : Prop :=
  match r with
  | .ok (.ret u) => CE outer P w H s Q u s'
  | .ok _ => False
  | .error e => CX outer H s E e s'
structure FnOk (P : Program) (w : World) (K : PySem.W.Frag) (mg : Str → Option Value) (base : Heap) (CX : CXT) (k : Nat) (f : Addr) (fd : FuncData) (ps : List Str) (sp : Sp) : Prop where
  len : ∀ vs H Q E, sp vs H Q E → vs.length = ps.length
  run : ∀ (A : Around) (outer : List Env) (s : Shared) (H : Hp) (args : Args) (us : List Value) (vs : List V) (Q : VK) (E : XK), Room k A → Env0 P w K mg base A outer s H → BindsTo s fd args (ps.zip us) → Vals vs us → sp vs H Q E →
    codeAny (model P w) A (.call (.ref f) args) (CR CX outer P w H s Q E) s
theorem FnOk.mono {P : Program} {w : World} {K : PySem.W.Frag} {mg : Str → Option Value} {base : Heap} {CX : CXT} {j k : Nat} {f : Addr} {fd : FuncData} {ps : List Str} {sp : Sp} (F : FnOk P w K mg base CX j f fd ps sp) (h : j ≤ k) :
    FnOk P w K mg base CX k f fd ps sp := ⟨F.len, fun A outer s H args us vs Q E hr => F.run A outer s H args us vs Q E (hr.mono h)⟩
/-- a weaker promise -/
theorem FnOk.imp {P : Program} {w : World} {K : PySem.W.Frag} {mg : Str → Option Value} {base : Heap} {CX : CXT} {k : Nat} {f : Addr} {fd : FuncData} {ps : List Str} {sp sp' : Sp} (F : FnOk P w K mg base CX k f fd ps sp)
    (h : ∀ vs H Q E, sp' vs H Q E → sp vs H Q E) : FnOk P w K mg base CX k f fd ps sp' :=
  ⟨fun vs H Q E q => F.len vs H Q E (h _ _ _ _ q), fun A outer s H args us vs Q E hr he hb hv hs => F.run A outer s H args us vs Q E hr he hb hv (h _ _ _ _ hs)⟩

section
variable {X : Cx} {pins : List (Addr × Obj)} {σ : St} {H : Hp} {s s' : Shared}
/-- from a body: what a callee wants -/
theorem Inv.env0 (I : Inv X pins σ H s) : Env0 X.prog X.w X.K X.mg X.base X.A X.stack s H :=
  ⟨I.ok.frames, I.ok.mod, I.bs, Nat.le_trans I.ok.bsz I.sz, I.stack, I.stkFree, I.hok, I.bare.1, I.ok.tb.un I.base⟩
/-- behind a call -/
theorem Inv.after {Q : VK} {u : Value} (I : Inv X pins σ H s) (h : CE X.stack X.prog X.w H s Q u s') : EP X pins σ Q u s' := by
  obtain ⟨v, H', os, bare, un, hok, r, q⟩ := h
  obtain ⟨hh, g, d, t, os'⟩ := s'
  obtain rfl : os' = s.os := os
  exact ⟨v, H', I.call (h' := hh) (g' := g) (d' := d) (t' := t) (ch := []) un hok bare (fun b z => absurd z (by simp)), r, q⟩
end

/-- f(..): the written arguments, then the defaults dvs; E: what is wanted of an exception -/
def tCall (sp : Sp) (dvs : List V) (E : XK) (t : TA) : TE := fun σ H Q => t σ H fun vs H1 => sp (vs ++ dvs) H1 Q E
/-- how the parameters are bound: us the positional arguments, kw the keywords' values by name, ds the defaults that fill up -/
def Binds (K : PySem.W.Frag) (fd : FuncData) (ps : List Str) (ds : List Value) : Prop :=
  ∀ (s : Shared) (us : List Value), K.In s.heap → (us ++ ds).length = ps.length → BindsTo s fd ⟨us, []⟩ (ps.zip (us ++ ds))
/-- every parameter is given -/
theorem Binds.all {K : PySem.W.Frag} {fd : FuncData} {ps : List Str} (h : ∀ us : List Value, us.length = ps.length → bindArgs fd ⟨us, []⟩ = pure (ps.zip us)) : Binds K fd ps [] := fun s us _ hl => by
  rw [List.append_nil] at hl ⊢
  exact .of_eq (h us hl)

/-- an exception of a callee reaches what this body wants of exceptions -/
def Passes (CX : CXT) (X : Cx) (E : XK) : Prop := ∀ (pins : List (Addr × Obj)) (σ : St) (H : Hp) (s : Shared) (e : Value) (s' : Shared), Inv X pins σ H s → CX X.stack H s E e s' → X.xe e s'

section
variable {X : Cx} {CX : CXT} {k : Nat} {f C : Addr} {fd : FuncData} {ps : List Str} {sp : Sp} {dvs : List V} {ds : List Value} {E : XK} {x m : Str} {p pos apos : Pos} {e o : Expr} {es : List Expr} {ta : TE} {t : TA}

/-- the callee runs -/
theorem run_fn {pins : List (Addr × Obj)} {σ : St} {H : Hp} {s : Shared} {Q : VK} {us : List Value} {vs : List V} (F : FnOk X.prog X.w X.K X.mg X.base CX k f fd ps sp) (hr : Room k X.A) (hb : Binds X.K fd ps ds) (hd : Vals dvs ds) (hx : Passes CX X E)
    (I : Inv X pins σ H s) (r : Vals vs us) (h : sp (vs ++ dvs) H Q E) : wpAny (model X.prog X.w) X.A (call (.ref f) us) (EP X pins σ Q) X.xe s := by
  have r2 : Vals (vs ++ dvs) (us ++ ds) := r.append hd
  have hl : (us ++ ds).length = ps.length := by rw [← r2.length]; exact F.len _ _ _ _ h
  refine wpAny_call (codeAny_mono (F.run X.A X.stack s H ⟨us, []⟩ (us ++ ds) (vs ++ dvs) Q E hr I.env0 (hb s us I.kIn hl) r2 h) fun r s' hq => ?_)
  cases r with
  | error e => exact hx pins σ H s e s' I hq
  | ok fl =>
    cases fl with
    | ret u => exact I.after hq
    | next => exact False.elim hq
    | brk => exact False.elim hq
    | cont => exact False.elim hq

theorem pe_call (F : FnOk X.prog X.w X.K X.mg X.base CX k f fd ps sp) (hr : Room k X.A) (hg : Gl X x) (hm : X.mg x = some (.ref f)) (hk : PySem.W.keepIn X.K (.ref f) = true) (hb : Binds X.K fd ps ds) (hd : Vals dvs ds) (hx : Passes CX X E)
    (ha : PA X (e :: es) t) (hdb : (x == ("__debug__" : Str)) = false := by decide) (he : starEach (e :: es) X.env = (false, eval e X.env) :: starEach es X.env := by rfl) (hpl : (backTo pos (starEach es X.env)).any (·.1) = false := by rfl) :
    PE X (.Call (.Name x p) (e :: es) [] pos) (tCall sp dvs E t) := by
  intro pins s σ H Q I h
  refine wpAny_Call_Name_kw (ld_glob I hg hm ?_ hdb)
  refine PySem.W.callWith_K (h₀ := X.base) I.ok.mod.kin hk (thn (ha pos pins s σ H _ I h) fun us s1 ⟨vs, H1, I1, r, q⟩ => ⟨I1.kIn, ?_⟩) he hpl
  exact run_fn F hr hb hd hx I1 r q
/-- what a class must have to be made -/
structure Mk (K : PySem.W.Frag) (C f : Addr) : Prop where
  makes : PySem.W.makesIn K C = true
  init : PySem.W.findIn K (.ref C) "__init__" = some (some (.ref f))
  fn : PySem.W.isFn K (.ref f) = true
  kp : PySem.W.keepIn K (.ref C) = true

end

section
variable {X : Cx} {CX : CXT} {k : Nat} {f C : Addr} {fd : FuncData} {ps ks : List Str} {sp : Sp} {E : XK} {x m : Str} {p pos apos kpos : Pos} {e o : Expr} {es : List Expr} {kws : List Keyword} {te ta : TE} {t tk : TA} {nm : Option Str}
/-- how a call with keywords binds: g puts the positional values us and the keywords' values ws (names ks) in the parameters' order, defaults among them -/
structure KBinds (K : PySem.W.Frag) (fd : FuncData) (ps ks : List Str) (g : List Value → List Value → List Value) (gV : List V → List V → List V) : Prop where
  to : ∀ (s : Shared) (us ws : List Value), K.In s.heap → (g us ws).length = ps.length → BindsTo s fd ⟨us, ks.zip ws⟩ (ps.zip (g us ws))
  rel : ∀ {vs : List V} {us : List Value} {zs : List V} {ws : List Value}, Vals vs us → Vals zs ws → Vals (gV vs zs) (g us ws)
variable {g : List Value → List Value → List Value} {gV : List V → List V → List V}
end

/-- names: the parameters first -/
structure FnScope (N P : List Str) (sc : Scope) : Prop where
  kind : sc.kind = .function
  co : sc.isCoroutine = false
  gen : sc.isGenerator = false
  nd : N.Nodup
  pre : N.take P.length = P
  par : ∀ x ∈ P, sc.names.lookup x = some .local ∨ sc.names.lookup x = some .cell
  nofree : ∀ y ∈ sc.names, y.2 ≠ .free

theorem bindL_out {kindOf : Str → Option NameKind} {x : Str} : ∀ {binds : List (Str × Value)} {m : Str → Option Value}, (∀ v, (x, v) ∉ binds) → bindL kindOf binds m x = m x
  | [], _, _ => rfl
  | (n, v) :: r, m, h => by
    unfold bindL
    rw [bindL_out fun w hw => h w (List.mem_cons_of_mem _ hw)]
    split
    · have : x ≠ n := by rintro rfl; exact h v List.mem_cons_self
      simp [this]
    · rfl
theorem bindC_out {kindOf : Str → Option NameKind} {x : Str} : ∀ {binds : List (Str × Value)} {m : Str → Option Value}, (∀ v, (x, v) ∉ binds) → bindC kindOf binds m x = m x
  | [], _, _ => rfl
  | (n, v) :: r, m, h => by
    unfold bindC
    rw [bindC_out fun w hw => h w (List.mem_cons_of_mem _ hw)]
    split
    · rfl
    · have : x ≠ n := by rintro rfl; exact h v List.mem_cons_self
      simp [this]
theorem bindL_get {kindOf : Str → Option NameKind} {x : Str} {v : Value} : ∀ {P : List Str} {vs : List Value} {i : Nat} {m : Str → Option Value}, P.Nodup → P[i]? = some x → vs[i]? = some v → kindOf x = some .local →
    bindL kindOf (P.zip vs) m x = some v
  | [], _, _, _, _, h, _, _ => by simp at h
  | _ :: _, [], _, _, _, _, h, _ => by simp at h
  | p :: P, w :: vs, 0, m, nd, h1, h2, hk => by
    simp at h1 h2; subst h1; subst h2
    show bindL kindOf ((p, w) :: P.zip vs) m p = _
    unfold bindL
    rw [bindL_out fun v hv => (List.nodup_cons.mp nd).1 (List.of_mem_zip hv).1, if_pos hk]
    simp
  | p :: P, w :: vs, i + 1, m, nd, h1, h2, hk => by
    show bindL kindOf ((p, w) :: P.zip vs) m x = _
    unfold bindL
    exact bindL_get (i := i) (List.nodup_cons.mp nd).2 (by simpa using h1) (by simpa using h2) hk
theorem bindC_get {kindOf : Str → Option NameKind} {x : Str} {v : Value} : ∀ {P : List Str} {vs : List Value} {i : Nat} {m : Str → Option Value}, P.Nodup → P[i]? = some x → vs[i]? = some v → kindOf x ≠ some .local →
    bindC kindOf (P.zip vs) m x = some v
  | [], _, _, _, _, h, _, _ => by simp at h
  | _ :: _, [], _, _, _, _, h, _ => by simp at h
  | p :: P, w :: vs, 0, m, nd, h1, h2, hk => by
    simp at h1 h2; subst h1; subst h2
    show bindC kindOf ((p, w) :: P.zip vs) m p = _
    unfold bindC
    rw [bindC_out fun v hv => (List.nodup_cons.mp nd).1 (List.of_mem_zip hv).1, if_neg hk]
    simp
  | p :: P, w :: vs, i + 1, m, nd, h1, h2, hk => by
    show bindC kindOf ((p, w) :: P.zip vs) m x = _
    unfold bindC
    exact bindC_get (i := i) (List.nodup_cons.mp nd).2 (by simpa using h1) (by simpa using h2) hk

/-- the names' values at the entry -/
def start (N : List Str) (vs : List V) : St := vs.map some ++ List.replicate (N.length - vs.length) none

/-- the context of a def's body, at its entry; an exception leaves the frame, then lies as CX says -/
def cxOf (CX : CXT) (P : Program) (w : World) (K : PySem.W.Frag) (mg : Str → Option Value) (base : Heap) (N : List Str) (qual : Str) (scope : Scope) (f : Addr) (cd : Value) (A : Around) (outer : List Env) (s : Shared) (H : Hp) (E : XK) : Cx where
  prog := P
  w := w
  K := K
  mg := mg
  base := base
  A := A.deeper (envOfC qual scope s.heap.objs.size f cd)
  N := N
  s_0 := s
  H_0 := H
  env := envOfC qual scope s.heap.objs.size f cd
  outer := outer
  stack := envOfC qual scope s.heap.objs.size f cd :: outer
  ex := []
  calm := true
  fn := fun _ => true
  pn := []
  xe := fun e s' => wpAny (model P w) (A.deeper (envOfC qual scope s.heap.objs.size f cd)) (leaving (envOfC qual scope s.heap.objs.size f cd) e) (fun _ s'' => CX outer H s E e s'') (fun e' s'' => CX outer H s E e' s'') s'

theorem cell_has {sc : Scope} {n : Nat} {x : Str} (h : sc.names.lookup x = some .cell) : ∃ c, (cellsFrom n sc.names []).lookup x = some c := by
  have q := PySem.W.cellsFrom_some sc.names n [] (.inl h)
  exact Option.isSome_iff_exists.mp q

theorem inv_start {CX : CXT} {P : Program} {w : World} {K : PySem.W.Frag} {mg : Str → Option Value} {base : Heap} {N ps : List Str} {qual : Str} {scope : Scope} {f : Addr} {cd : Value} {A : Around} {outer : List Env} {s s1 : Shared} {H : Hp} {E : XK} {us : List Value} {vs : List V}
    (S : FnScope N ps scope) (hd : A.handled = none) (e0 : Env0 P w K mg base A outer s H) (hl : vs.length = ps.length) (r : Vals vs us)
    (x : InCallC s s.heap.objs.size (bindL (envOfC qual scope s.heap.objs.size f cd).kindOf (ps.zip us) fun _ => none) (cellsFrom (s.heap.objs.size + 1) scope.names []) (bindC (envOfC qual scope s.heap.objs.size f cd).kindOf (ps.zip us) fun _ => none) s1) :
    Inv (cxOf CX P w K mg base N qual scope f cd A outer s H E) [] (start N vs) H s1 := by
  have hpl : ps.length ≤ N.length := by have := congrArg List.length S.pre; rw [List.length_take] at this; omega
  obtain ⟨h1, tk, rfl, hk⟩ := x.done
  have noA : ∀ b : Addr, b ∉ (cxOf CX P w K mg base N qual scope f cd A outer s H E).ex := fun b z => absurd (show b ∈ ([] : List Addr) from z) (by simp)
  refine ⟨⟨e0.mod, S.kind, rfl, rfl, Nat.le_refl _, fun y z c h1 h2 => ?_, fun y hy => ?_, fun y c _ h => ?_, fun _ => hd, Around.frames_deeper e0.frames, .inr ⟨rfl, rfl⟩, fun b z => absurd z (noA b), e0.bs, e0.bsz, fun b _ _ => noA b, fun b z => absurd z (noA b), e0.funs, e0.frf, e0.tb⟩,
    rfl, ⟨e0.bare, Nat.le_refl _⟩, Un.kept hk, ⟨_, x.toInCall.ns, fun i y v h1 h2 h3 => ?_⟩, fun y c h => ⟨_, x.cell y c h⟩, e0.hok.fresh (Nat.le_refl _), fun y c h => ?_, fun p hp => absurd (show p ∈ ([] : List (Addr × Obj)) from hp) (by simp), e0.hok.kept hk, ?_⟩
  · exact name_of_addr x.apart (PySem.mem_of_lookup h1) (PySem.mem_of_lookup h2)
  · have hy : scope.names.lookup y = some .cell ∨ scope.names.lookup y = some .free := hy
    rcases hy with hy | hy
    · exact cell_has hy
    · exact absurd rfl (S.nofree _ (PySem.mem_of_lookup hy))
  · exact Nat.le_of_lt (x.above y c (PySem.mem_of_lookup h))
  · have hi : i < vs.length := by
      unfold start at h2
      by_cases hi : i < vs.length
      · exact hi
      · rw [List.getElem?_append_right (by simpa using hi)] at h2
        rw [List.getElem?_replicate] at h2
        split at h2 <;> cases h2
    have ha : vs[i]? = some v := by
      unfold start at h2
      rw [List.getElem?_append_left (by simpa using hi), List.getElem?_map] at h2
      cases e : vs[i]? with
      | none => rw [e] at h2; cases h2
      | some a => rw [e] at h2; cases h2; rfl
    obtain ⟨u, hu, rv⟩ := r.get ha
    have hp : ps[i]? = some y := by
      rw [← S.pre, List.getElem?_take_of_lt (by omega)]; exact h1
    have ndP : ps.Nodup := by rw [← S.pre]; exact S.nd.sublist (List.take_sublist _ _)
    refine ⟨u, rv, ?_⟩
    rcases S.par y (List.mem_of_getElem? hp) with k | k
    · exact .inl ⟨k, bindL_get ndP hp hu k⟩
    · obtain ⟨c, e⟩ := cell_has (n := s.heap.objs.size + 1) k
      refine .inr ⟨.inl k, c, e, ?_⟩
      have q := x.cell y c e
      rw [bindC_get ndP hp hu (by show scope.names.lookup y ≠ _; rw [k]; decide)] at q
      exact q
  · exact e0.hok.fresh (Nat.le_of_lt (x.above y c (PySem.mem_of_lookup h)))
  · unfold start
    show _ = N.length
    rw [List.length_append, List.length_map, List.length_replicate]
    omega

/-- THE RULE: a def (or a method) of the text, by its body. The body's reading t is chosen for each entry; it is run at the parameters' values -/
theorem fn_of {CX : CXT} {P : Program} {w : World} {K : PySem.W.Frag} {mg : Str → Option Value} {base : Heap} {k : Nat} {f : Addr} {name qual : Str} {params : Arguments} {body : List Stmt} {scope : Scope} {dV kV doc pm cdv ct oc : Value} {an od : Option Addr}
    {osl : Array (Option Value)} {N ps : List Str} {sp : Sp} (lk : K.lookup f = some ⟨oc, od, .func (PySem.W.fnOf name qual params body scope dV kV doc pm an cdv ct), osl⟩) (hcd : PySem.W.codeIn K cdv qual = true) (S : FnScope N ps scope)
    (len : ∀ vs H Q E, sp vs H Q E → vs.length = ps.length)
    (hbody : ∀ (A : Around) (outer : List Env) (s : Shared) (H : Hp) (vs : List V) (Q : VK) (E : XK), Room k (A.deeper (envOfC qual scope s.heap.objs.size f cdv)) → sp vs H Q E →
      ∃ t, PSs (cxOf CX P w K mg base N qual scope f cdv A outer s H E) body t ∧ t { nx := fun _ H' => Q .non H', rt := Q } (start N vs) H) :
    FnOk P w K mg base CX (k + 1) f (PySem.W.fnOf name qual params body scope dV kV doc pm an cdv ct) ps sp := by
  refine ⟨len, fun A outer s H args us vs Q E hr e0 hb r hsp => ?_⟩
  have hl := len _ _ _ _ hsp
  have KX : K.In s.heap := e0.mod.kin.keeps fun b o e => (e0.bs b o e).1
  have lim : s.heap.NoLimit := e0.mod.nolimit.keeps fun b o e => (e0.bs b o e).1
  have hkind : ∀ y ∈ ps.zip us, scope.names.lookup y.1 = some .local ∨ (scope.names.lookup y.1 = some .cell ∧ ((cellsFrom (s.heap.objs.size + 1) scope.names []).lookup y.1).isSome = true) := fun ⟨n, v⟩ hy => by
    rcases S.par n (List.of_mem_zip hy).1 with q | q
    · exact .inl q
    · exact .inr ⟨q, PySem.W.cellsFrom_some _ _ _ (.inl q)⟩
  refine codeAny_call_function hr.depth (KX _ _ lk) rfl S.co S.gen rfl (PySem.W.codeRec_of KX hcd) (hb _ _ _ _ ?_)
  refine wpAny_newFunctionEnv_cells S.kind hkind fun env he s1 x => ?_
  subst he
  refine ⟨lim.keeps x.toInCall.keep, codeAny_func ?_⟩
  obtain ⟨t, ht, hq⟩ := hbody A outer s H vs Q E (hr.deeper _) hsp
  have I : Inv (cxOf CX P w K mg base N qual scope f cdv A outer s H E) [] (start N vs) H s1 := inv_start S hr.hd e0 hl r x
  refine wpAny_mono (ht [] s1 (start N vs) H _ I hq) (fun fl s' hs => ?_) fun e s' hs => hs
  have fin : ∀ {σ' : St} {H' : Hp} {v : V} {u : Value}, Inv (cxOf CX P w K mg base N qual scope f cdv A outer s H E) [] σ' H' s' → RelV v u → Q v H' → CE outer P w H s Q u s' :=
    fun {σ' H' v u} J rv q => ⟨v, H', J.os, J.bare, J.base, J.hok, rv, q⟩
  cases fl with
  | ret u =>
    obtain ⟨v, σ', H', J, rv, q⟩ := hs
    exact fin J rv q
  | next =>
    obtain ⟨σ', H', J, q⟩ := hs
    exact fin (v := V.non) (u := Value.none) J rfl q
  | brk =>
    obtain ⟨_, _, _, q⟩ := hs
    exact False.elim q
  | cont =>
    obtain ⟨_, _, _, q⟩ := hs
    exact False.elim q
end L2

namespace L2
open PySem PySem.Spec PyProof.Rows
section
variable {X : Cx} {x : Str} {p pos : Pos} {e : Expr} {es : List Expr} {t : TA} {id T : String} {r : List V → Hp → VK → Prop}

def tCB (r : List V → Hp → VK → Prop) (t : TA) : TE := fun σ H Q => t σ H fun vs H1 => r vs H1 Q
/-- f(e, ..), f a built-in function -/
theorem pe_callB (hc : CallR X (.builtin id) r) (hg : Gl X x) (hm : X.mg x = none) (hv : bootBuiltins x = some (.builtin id)) (ha : PA X (e :: es) t) (hn : x ≠ "__name__" := by decide) (hdb : (x == ("__debug__" : Str)) = false := by decide)
    (he : starEach (e :: es) X.env = (false, eval e X.env) :: starEach es X.env := by rfl) (hpl : (backTo pos (starEach es X.env)).any (·.1) = false := by rfl) : PE X (.Call (.Name x p) (e :: es) [] pos) (tCB r t) := by
  intro pins s σ H Q I h
  refine wpAny_Call_Name_kw (ld_blt I hg hm hv ?_ hn hdb)
  exact PyProof.Rows.callWith_builtin1 (thn (ha pos pins s σ H _ I h) fun us s1 ⟨vs, H1, I1, r1, q1⟩ => hc pins s1 σ H1 vs us Q I1 r1 q1) he hpl
/-- T(e, ..), T a built-in type -/
theorem pe_callTy (hc : CallR X (.type T) r) (hg : Gl X x) (hm : X.mg x = none) (hv : bootBuiltins x = some (.type T)) (ha : PA X (e :: es) t) (hn : x ≠ "__name__" := by decide) (hdb : (x == ("__debug__" : Str)) = false := by decide)
    (he : starEach (e :: es) X.env = (false, eval e X.env) :: starEach es X.env := by rfl) (hpl : (backTo pos (starEach es X.env)).any (·.1) = false := by rfl) : PE X (.Call (.Name x p) (e :: es) [] pos) (tCB r t) := by
  intro pins s σ H Q I h
  refine wpAny_Call_Name_kw (ld_blt I hg hm hv ?_ hn hdb)
  exact PyProof.Rows.callWith_type1 (thn (ha pos pins s σ H _ I h) fun us s1 ⟨vs, H1, I1, r1, q1⟩ => hc pins s1 σ H1 vs us Q I1 r1 q1) he hpl
end
end L2

namespace HT
open PySem PyProof.Rows

section
open PySem.SeqAt
open PySem.AutoSeq1 (wpAny_loadPart')
open PySem.MeetsSeq PySem.MeetsSeq2 PySem.MeetsSeq3

end

section
variable {prog : Program} {w : World} {A : Around} {E : Value → Shared → Prop} {s : Shared}

/-- a slice's bound as a place among n (d where it is left out) -/
def sIx (n d : Nat) : Option Int → Nat
  | none => d
  | some v => if v < 0 then (v + (n : Int)).toNat else min v.toNat n
end
end HT

namespace L2
open PySem PySem.Spec PyProof.Rows

abbrev TO := St → Hp → (Option Int → Hp → Prop) → Prop
/-- a slice's part (left out, or an int) -/
def PO (X : Cx) (e : Option Expr) (t : TO) : Prop :=
  ∀ (pins : List (Addr × Obj)) (s : Shared) (σ : St) (H : Hp) (Q : Option Int → Hp → Prop), Inv X pins σ H s → t σ H Q →
    wpAny (model X.prog X.w) X.A (evalPart e X.env) (fun u s' => ∃ o H', Inv X pins σ H' s' ∧ IsPart u o ∧ Q o H') X.xe s
def tNoPart : TO := fun _ H Q => Q none H
def tPart (t : TE) : TO := fun σ H Q => t σ H fun x H1 => ∃ i, x = .int i ∧ Q (some i) H1

theorem intsAre_of {ns : List Int} : ∀ {us : List Value}, Vals (ns.map V.int) us → IntsAre us ns := by
  induction ns with
  | nil => intro us r; rw [List.map_nil] at r; cases r; exact .nil
  | cons n ns ih =>
    intro us r
    rw [List.map_cons] at r
    cases r with
    | cons r1 r2 =>
      obtain ⟨t, e⟩ := r1
      subst e
      exact .cons n t (ih r2)

section
variable {X : Cx} {e : Expr} {te : TE} {lo hi : Option Expr} {tl th : TO} {pos p2 : Pos}

theorem po_none : PO X none tNoPart := by
  intro pins s σ H Q I h
  rw [evalPart_none]
  exact wpAny_pure ⟨none, H, I, .none, h⟩
theorem po_some (h : PE X e te) : PO X (some e) (tPart te) := by
  intro pins s σ H Q I hw
  rw [evalPart_some]
  refine thn (h pins s σ H _ I hw) fun u s1 ⟨x, H1, I1, r1, q1⟩ => ?_
  obtain ⟨i, rfl, q⟩ := q1
  obtain ⟨t, rfl⟩ := r1
  exact ⟨some i, H1, I1, .int i t, q⟩

/-- what a slice of a value is, by values: the slice object stands at sl -/
def SlR (X : Cx) (r : V → Option Int → Option Int → Hp → VK → Prop) : Prop :=
  ∀ (pins : List (Addr × Obj)) (s : Shared) (σ : St) (H : Hp) (x : V) (v vl vu : Value) (lo hi : Option Int) (sl : Addr) (Q : VK), Inv X pins σ H s → RelV x v → s.heap.IsSliceOf sl vl vu .none → IsPart vl lo → IsPart vu hi → r x lo hi H Q →
    ∃ T id, typeLookup (.type T) "__getitem__" = pure (some (.builtin id)) ∧ s.TypeIs v T ∧ wpAny (model X.prog X.w) X.A (getItem v (.ref sl)) (EP X pins σ Q) X.xe s
theorem SlR.or {r r' : V → Option Int → Option Int → Hp → VK → Prop} (h : SlR X r) (h' : SlR X r') : SlR X (fun x lo hi H Q => r x lo hi H Q ∨ r' x lo hi H Q) := by
  intro pins s σ H x v vl vu lo hi sl Q I rx hs pl pu q
  rcases q with q | q
  · exact h pins s σ H x v vl vu lo hi sl Q I rx hs pl pu q
  · exact h' pins s σ H x v vl vu lo hi sl Q I rx hs pl pu q
def tSl (r : V → Option Int → Option Int → Hp → VK → Prop) (te : TE) (tl th : TO) : TE := fun σ H Q => te σ H fun x H1 => tl σ H1 fun l H2 => th σ H2 fun u H3 => r x l u H3 Q
/-- a[lo:hi], any a -/
theorem pe_slice {r : V → Option Int → Option Int → Hp → VK → Prop} (hr : SlR X r) (he : PE X e te) (hl : PO X lo tl) (hu : PO X hi th) : PE X (.Subscript e (.Slice lo hi none p2) pos) (tSl r te tl th) := by
  intro pins s σ H Q I h
  refine Subscript_ (thn (he pins s σ H _ I h) fun v s1 ⟨x, H1, I1, r1, q1⟩ => ?_)
  refine wpAny_Slice (thn (hl pins s1 σ H1 _ I1 q1) fun vl s2 ⟨l, H2, I2, pl, q2⟩ => thn (hu pins s2 σ H2 _ I2 q2) fun vu s3 ⟨u, H3, I3, pu, q3⟩ => ?_)
  rw [evalPart_none]
  refine wpAny_pure ?_
  have I4 : Inv X pins σ H3 { s3 with heap := s3.heap.push { cls := .type "slice", data := .fields #[vl, vu, .none] } } := I3.kept (t' := s3.toks) fun b ob q => Heap.get?_push_of_some _ q
  obtain ⟨T, id, hT, ht, hg⟩ := hr pins { s3 with heap := s3.heap.push { cls := .type "slice", data := .fields #[vl, vu, .none] } } σ H3 x v vl vu l u s3.heap.objs.size Q I4 r1 (Heap.IsSliceOf.new ..) pl pu q3
  show wpAny (model X.prog X.w) X.A (subscriptTail e (.Slice lo hi none p2) v (.ref s3.heap.objs.size)) (EP X pins σ Q) X.xe { s3 with heap := s3.heap.push { cls := .type "slice", data := .fields #[vl, vu, .none] } }
  exact tail_any (ops := [.ref s3.heap.objs.size, v]) ht hT hg (by with_unfolding_all rfl)

/-- the items of xs[lo:hi] -/
def cutV (xs : List V) (lo hi : Option Int) : List V := (xs.drop (HT.sIx xs.length 0 lo)).take (HT.sIx xs.length xs.length hi - HT.sIx xs.length 0 lo)
theorem cutV_length (xs : List V) (lo hi : Option Int) : (cutV xs lo hi).length ≤ xs.length := by
  unfold cutV
  rw [List.length_take, List.length_drop]
  omega
end
end L2

namespace L2
open PySem PySem.Spec PyProof.Rows

/-- the place that an index of any sign means -/
def ixN (n : Nat) (i : Int) : Option Nat := if 0 ≤ i then (if i < n then some i.toNat else none) else if -(n : Int) ≤ i then some (i + n).toNat else none
def atI {α : Type} (xs : List α) (i : Int) : Option α := (ixN xs.length i).bind fun j => xs[j]?
theorem ixN_seq {n : Nat} {i : Int} {j : Nat} (h : ixN n i = some j) : seqIndex? i n = some j ∧ j < n ∧ -(n : Int) ≤ i ∧ i < n := by
  unfold ixN at h
  by_cases h0 : 0 ≤ i
  · rw [if_pos h0] at h
    by_cases h1 : i < n
    · rw [if_pos h1] at h
      have e : i.toNat = j := Option.some.inj h
      exact ⟨by rw [seqIndex_of h0 h1, e], by omega, by omega, h1⟩
    · rw [if_neg h1] at h; cases h
  · rw [if_neg h0] at h
    by_cases h1 : -(n : Int) ≤ i
    · rw [if_pos h1] at h
      have e : (i + n).toNat = j := Option.some.inj h
      exact ⟨by rw [seqIndex_neg (by omega) h1, e], by omega, h1, by omega⟩
    · rw [if_neg h1] at h; cases h
theorem atI_get {α : Type} {xs : List α} {i : Int} {v : α} (h : atI xs i = some v) : ∃ j, seqIndex? i xs.length = some j ∧ xs[j]? = some v ∧ j < xs.length ∧ -(xs.length : Int) ≤ i ∧ i < xs.length := by
  unfold atI at h
  cases e : ixN xs.length i with
  | none => rw [e] at h; cases h
  | some j =>
    rw [e] at h
    obtain ⟨h1, h2, h3, h4⟩ := ixN_seq e
    exact ⟨j, h1, h, h2, h3, h4⟩
theorem atI_nat {α : Type} {xs : List α} {j : Nat} {v : α} (h : xs[j]? = some v) : atI xs (j : Int) = some v := by
  have hj : j < xs.length := (List.getElem?_eq_some_iff.mp h).1
  have e : ixN xs.length (j : Int) = some j := by
    unfold ixN
    rw [if_pos (by omega), if_pos (by omega)]; simp
  unfold atI; rw [e]; exact h
theorem atI_last {α : Type} (xs : List α) (v : α) : atI (xs ++ [v]) (-1) = some v := by
  have hl : (xs ++ [v]).length = xs.length + 1 := by simp
  have e : ixN (xs ++ [v]).length (-1) = some xs.length := by
    unfold ixN
    rw [hl, if_neg (by decide), if_pos (by omega)]
    congr 1
    omega
  unfold atI
  rw [e]
  show (xs ++ [v])[xs.length]? = some v
  simp

/-- what stands as an index of a plain subscript -/
def PlainIx (b : Expr) : Prop := ∀ o i, subscripted b false o i = operate [o, i] (getItem o i)
/-- a subscript by values -/
def IxR (X : Cx) (r : R2) : Prop :=
  ∀ (value slice : Expr) (pins : List (Addr × Obj)) (s : Shared) (σ : St) (H : Hp) (x y : V) (v u : Value) (Q : VK), Inv X pins σ H s → RelV x v → RelV y u → r x y H Q →
    subscripted slice false v u = operate [v, u] (getItem v u) → wpAny (model X.prog X.w) X.A (subscriptTail value slice v u) (EP X pins σ Q) X.xe s
/-- a call of a builtin's method by values: the receiver, the arguments -/
def MtR (X : Cx) (id : String) (r : V → List V → Hp → VK → Prop) : Prop :=
  ∀ (pins : List (Addr × Obj)) (s : Shared) (σ : St) (H : Hp) (x : V) (xs : List V) (v : Value) (us : List Value) (Q : VK), Inv X pins σ H s → RelV x v → Vals xs us → r x xs H Q →
    wpAny (model X.prog X.w) X.A (call (.builtin id) (v :: us)) (EP X pins σ Q) X.xe s
section
variable {X : Cx} {a b : Expr} {ta tb : TE} {pos : Pos}
theorem IxR.or {r r' : R2} (h : IxR X r) (h' : IxR X r') : IxR X (fun x y H Q => r x y H Q ∨ r' x y H Q) := by
  intro value slice pins s σ H x y v u Q I rx ry q hs
  rcases q with q | q
  · exact h value slice pins s σ H x y v u Q I rx ry q hs
  · exact h' value slice pins s σ H x y v u Q I rx ry q hs
theorem MtR.or {id : String} {r r' : V → List V → Hp → VK → Prop} (h : MtR X id r) (h' : MtR X id r') : MtR X id (fun x xs H Q => r x xs H Q ∨ r' x xs H Q) := by
  intro pins s σ H x xs v us Q I rx rs q
  rcases q with q | q
  · exact h pins s σ H x xs v us Q I rx rs q
  · exact h' pins s σ H x xs v us Q I rx rs q
/-- a[b] -/
theorem pe_ix {r : R2} (hr : IxR X r) (ha : PE X a ta) (hb : PE X b tb) (hs : PlainIx b) : PE X (.Subscript a b pos) (tOp r ta tb) := by
  intro pins s σ H Q I h
  exact Subscript_ (binT ha hb I h fun v u s2 x y H2 I2 rx ry q => hr a b pins s2 σ H2 x y v u Q I2 rx ry q (hs _ _))

def rIxL (K : PySem.W.Frag) : R2 := fun x y H Q => ∃ p xs i v, x = .ref p ∧ y = .int i ∧ SqL K H p xs ∧ atI xs i = some v ∧ Q v H
theorem ix_list : IxR X (rIxL X.K) := by
  intro value slice pins s σ H x y v u Q I rx ry h hs
  obtain ⟨p, xs, i, z, rfl, rfl, hq, he, q⟩ := h
  cases rx
  obtain ⟨t, rfl⟩ := ry
  obtain ⟨its, r, pl, hz⟩ := I.list hq
  obtain ⟨j, h1, h2, h3, h4, h5⟩ := atI_get he
  obtain ⟨w, ew, rw'⟩ := r.get h2
  have hl := r.length
  have hn := line63
  have fin : EP X pins σ Q w s := ⟨z, H, I, rw', q⟩
  by_cases h0 : 0 ≤ i
  · have hj : i.toNat = j := by
      rw [seqIndex_of h0 h5] at h1
      exact Option.some.inj h1
    exact item_listR pl.isList h0 (by omega) (by rw [hj]; simpa using ew) fin hs
  · have hj : (i + (its.toArray.size : Int)).toNat = j := by
      rw [seqIndex_neg (by omega) h4] at h1
      rw [List.size_toArray, ← hl]
      exact Option.some.inj h1
    exact subscriptTail_builtinR (x := w) pl.isList.typeIs slot_list_getitem.lookup
      (wpAny_getItem_list_neg (Q := fun r s' => r = w ∧ EP X pins σ Q r s') pl.isList (by omega) (by rw [List.size_toArray] <;> omega) (by omega) (by rw [hj]; simpa using ew) ⟨rfl, fin⟩) hs
/-- the list's object behind a store -/
theorem mapSeq_set (its : List Value) (n j : Nat) (u : Value) : Obj.mapSeq (·.setIfInBounds j u) { cls := .type "list", data := .seq its.toArray n } = { cls := .type "list", data := .seq (its.set j u).toArray n } := by
  simp [Obj.mapSeq]
theorem Inv.lst {pins : List (Addr × Obj)} {σ : St} {H : Hp} {s : Shared} {p : Addr} {xs : List V} (I : Inv X pins σ H s) (h : H p = some (.lst xs)) :
    ∃ (its : List Value) (n : Nat), Vals xs its ∧ s.heap.get? p = some { cls := .type "list", data := .seq its.toArray n } ∧ xs.length ≤ sizeLine := by
  obtain ⟨z, its, n, r, e⟩ := I.hok p _ h
  exact ⟨its, n, r, e, z⟩
/-- the list at p is written by an update of its object -/
theorem Inv.lstUpd {pins : List (Addr × Obj)} {σ : St} {H : Hp} {s : Shared} {p : Addr} {xs ys : List V} {its its' : List Value} {n n' : Nat} {f : Obj → Obj} (I : Inv X pins σ H s) (h : H p = some (.lst xs))
    (ho : s.heap.get? p = some { cls := .type "list", data := .seq its.toArray n }) (hf : f { cls := .type "list", data := .seq its.toArray n } = { cls := .type "list", data := .seq its'.toArray n' }) (r : Vals ys its') (hz : ys.length ≤ sizeLine) (t : Nat) :
    Inv X pins σ (upd H p (.lst ys)) { s with heap := s.heap.update p f, toks := t } := by
  have e : (s.heap.update p f).get? p = some { cls := .type "list", data := .seq its'.toArray n' } := by
    rw [Heap.get?_update_self f ho (by rw [hf] <;> rfl), hf]
  refine I.write (x := p) (e := p) (by rw [h]; trivial) (.inl rfl) (fun b u hb q => (Heap.get?_update_other _ _ (Ne.symm hb)).trans q) ⟨_, e⟩ ?_
  exact ⟨hz, its', n', r, e⟩
def rSetL : V → V → V → Hp → (Hp → Prop) → Prop := fun o i v H Q => ∃ p xs k j, o = .ref p ∧ i = .int k ∧ H p = some (.lst xs) ∧ ixN xs.length k = some j ∧ Q (upd H p (.lst (xs.set j v)))
theorem set_list : PSet X rSetL := by
  intro pins s σ H o i v ov iv u Q I ro ri rv h
  obtain ⟨p, xs, k, j, rfl, rfl, hp, hj, q⟩ := h
  cases ro
  obtain ⟨t, rfl⟩ := ri
  obtain ⟨its, n, r, ho, hz⟩ := I.lst hp
  obtain ⟨h1, h2, h3, h4⟩ := ixN_seq hj
  have hl := r.length
  have hn := line63
  have I' : Inv X pins σ (upd H p (.lst (xs.set j v))) { s with heap := s.heap.update p (Obj.mapSeq (·.setIfInBounds j u)) } :=
    I.lstUpd hp ho (mapSeq_set its n j u) (r.set rv j) (by rw [List.length_set]; exact hz) s.toks
  by_cases h0 : 0 ≤ k
  · have hk : k.toNat = j := by
      rw [seqIndex_of h0 h4] at h1
      exact Option.some.inj h1
    exact PySem.W.ki_setAt ho h0 (by omega) (by rw [List.size_toArray, ← hl]; exact h4) (by rw [hk]; exact ⟨_, I', q⟩)
  · have hk : (k + (its.toArray.size : Int)).toNat = j := by
      rw [seqIndex_neg (by omega) h3] at h1
      rw [List.size_toArray, ← hl]
      exact Option.some.inj h1
    exact PySem.W.ki_setBack ho (by omega) (by rw [List.size_toArray, ← hl]; exact h3) (by omega) (by rw [hk]; exact ⟨_, I', q⟩)

theorem slice_bounds (lo hi : Option Int) (n : Nat) : (sliceBounds lo hi none n).1 = ((HT.sIx n 0 lo : Nat) : Int) ∧ (sliceBounds lo hi none n).2.1 = ((HT.sIx n n hi : Nat) : Int) ∧ (sliceBounds lo hi none n).2.2 = 1 := by
  refine ⟨?_, ?_, rfl⟩
  · cases lo with
    | none => simp [sliceBounds, HT.sIx]
    | some i =>
      simp only [sliceBounds, HT.sIx, Option.getD_none, show (1 : Int) > 0 by decide, if_true]
      by_cases h : i < 0
      · simp only [h, if_true] <;> omega
      · simp only [h, if_false] <;> omega
  · cases hi with
    | none => simp [sliceBounds, HT.sIx]
    | some i =>
      simp only [sliceBounds, HT.sIx, Option.getD_none, show (1 : Int) > 0 by decide, if_true]
      by_cases h : i < 0
      · simp only [h, if_true] <;> omega
      · simp only [h, if_false] <;> omega
theorem slicePick_cut (its : List Value) (lo hi : Option Int) : slicePick its.toArray lo hi none = ((its.drop (HT.sIx its.length 0 lo)).take (HT.sIx its.length its.length hi - HT.sIx its.length 0 lo)).toArray := by
  obtain ⟨h1, h2, h3⟩ := slice_bounds lo hi its.toArray.size
  unfold slicePick
  rw [h1, h2, h3]
  simp only [sliceRange_one, pick_run, List.size_toArray] <;> rfl
/-- xs[lo:hi] of a list: a new list -/
def rSlL (K : PySem.W.Frag) : V → Option Int → Option Int → Hp → VK → Prop := fun x lo hi H Q => ∃ a xs, x = .ref a ∧ SqL K H a xs ∧ ∀ p, H p = none → Q (.ref p) (upd H p (.lst (cutV xs lo hi)))
theorem sl_list : SlR X (rSlL X.K) := by
  intro pins s σ H x v vl vu lo hi sl Q I rx hs pl pu h
  obtain ⟨a, xs, rfl, hx, q⟩ := h
  cases rx
  obtain ⟨its, r, ht, hz⟩ := I.list hx
  have hlen := r.length
  refine ⟨"list", _, slot_list_getitem.lookup, ht.isList.typeIs, ?_⟩
  refine wpAny_getItem_list_slice ht.isList hs pl pu .none (by simp) ?_ (by rw [List.size_toArray] <;> omega)
  rw [slicePick_cut, ← hlen]
  refine ⟨.ref s.heap.objs.size, _, I.laid (t' := s.toks) (o := .lst (cutV xs lo hi)) (fun b ob q => Heap.get?_push_of_some _ q) (Nat.le_refl _) ?_, rfl, q _ (I.hok.fresh (Nat.le_refl _))⟩
  exact ⟨Nat.le_trans (cutV_length xs lo hi) hz, _, 0, (r.drop (HT.sIx xs.length 0 lo)).take (HT.sIx xs.length xs.length hi - HT.sIx xs.length 0 lo), Heap.get?_push_size _ rfl⟩

def flatV : V → Bool
  | .non => true
  | .bl _ => true
  | .int _ => true
  | .str _ => true
  | _ => false
/-- == of flat values -/
def eqV : V → V → Bool
  | .non, .non => true
  | .bl a, .bl b => a == b
  | .bl a, .int b => (if a then 1 else 0) == b
  | .int a, .bl b => a == (if b then 1 else 0)
  | .int a, .int b => a == b
  | .str a, .str b => a == b
  | _, _ => false
theorem eqAt_V {A : Around} {s : Shared} {y x : V} {u v : Value} (ry : RelV y u) (rx : RelV x v) (fy : flatV y = true) (fx : flatV x = true) : SeqAt.EqAt A s u v (eqV y x) := by
  cases y with
  | non =>
    cases ry
    cases x with
    | non => cases rx; exact SeqAt.EqAt.same _
    | bl b => cases rx; exact SeqAt.EqAt.none_bool b
    | int b => obtain ⟨t, rfl⟩ := rx; exact SeqAt.EqAt.none_int b t
    | str b => obtain ⟨t, rfl⟩ := rx; exact SeqAt.EqAt.none_str b t
    | _ => exact absurd (show false = true from fx) Bool.false_ne_true
  | bl a =>
    cases ry
    cases x with
    | non => cases rx; exact SeqAt.EqAt.bool_none a
    | bl b => cases rx; exact SeqAt.EqAt.bool_bool a b
    | int b => obtain ⟨t, rfl⟩ := rx; exact SeqAt.EqAt.bool_int a b t
    | str b => obtain ⟨t, rfl⟩ := rx; exact SeqAt.EqAt.bool_str a b t
    | _ => exact absurd (show false = true from fx) Bool.false_ne_true
  | int a =>
    obtain ⟨t', rfl⟩ := ry
    cases x with
    | non => cases rx; exact SeqAt.EqAt.int_none a t'
    | bl b => cases rx; exact SeqAt.EqAt.int_bool a t' b
    | int b => obtain ⟨t, rfl⟩ := rx; exact SeqAt.EqAt.int_int a t' b t
    | str b => obtain ⟨t, rfl⟩ := rx; exact SeqAt.EqAt.int_str a t' b t
    | _ => exact absurd (show false = true from fx) Bool.false_ne_true
  | str a =>
    obtain ⟨t', rfl⟩ := ry
    cases x with
    | non => cases rx; exact SeqAt.EqAt.str_none a t'
    | bl b => cases rx; exact SeqAt.EqAt.str_bool a t' b
    | int b => obtain ⟨t, rfl⟩ := rx; exact SeqAt.EqAt.str_int a t' b t
    | str b => obtain ⟨t, rfl⟩ := rx; exact SeqAt.EqAt.str_str a t' b t
    | _ => exact absurd (show false = true from fx) Bool.false_ne_true
  | _ => exact absurd (show false = true from fy) Bool.false_ne_true
/-- the items' answers, read off the values (a value's own answer does not lean on its token) -/
def eqU (x : V) (u : Value) : Bool := match u with
  | .none => eqV .non x
  | .bool b => eqV (.bl b) x
  | .int i _ => eqV (.int i) x
  | .str z _ => eqV (.str z) x
  | _ => false
theorem eqU_of {x y : V} {u : Value} (r : RelV y u) (f : flatV y = true) : eqU x u = eqV y x := by
  cases y with
  | non => cases r; rfl
  | bl b => cases r; rfl
  | int i => obtain ⟨t, rfl⟩ := r; rfl
  | str z => obtain ⟨t, rfl⟩ := r; rfl
  | _ => exact absurd (show false = true from f) Bool.false_ne_true
theorem any_eqU {x : V} : ∀ {xs : List V} {us : List Value}, Vals xs us → xs.all flatV = true → us.any (eqU x) = xs.any fun y => eqV y x
  | _, _, .nil, _ => rfl
  | y :: xs, u :: us, .cons r t, f => by
    rw [List.all_cons, Bool.and_eq_true] at f
    rw [List.any_cons, List.any_cons, eqU_of r f.1, any_eqU t f.2]
theorem mem_eqAt {A : Around} {s : Shared} {x : V} {v : Value} (rx : RelV x v) (fx : flatV x = true) : ∀ {xs : List V} {us : List Value}, Vals xs us → xs.all flatV = true → ∀ u ∈ us, SeqAt.EqAt A s u v (eqU x u)
  | _, _, .nil, _ => fun u hu => by cases hu
  | y :: xs, u :: us, .cons r t, f => fun u' hu => by
    rw [List.all_cons, Bool.and_eq_true] at f
    rcases List.mem_cons.mp hu with rfl | hu
    · rw [eqU_of r f.1]; exact eqAt_V r rx f.1 fx
    · exact mem_eqAt rx fx t f.2 u' hu
def inV (x : V) (xs : List V) : Bool := xs.any fun y => eqV y x
/-- x in a list or tuple of flat items -/
def rIn (K : PySem.W.Frag) (neg : Bool) : R2 := fun x y H Q => ∃ p xs, y = .ref p ∧ (SqL K H p xs ∨ SqT K H p xs) ∧ flatV x = true ∧ xs.all flatV = true ∧ Q (.bl (if neg then !inV x xs else inV x xs)) H
theorem op_in_seq : OpR X (compareOp .In) (rIn X.K false) := by
  intro pins s σ H x y v u Q I rx ry h
  obtain ⟨p, xs, rfl, hq, fx, fs, q⟩ := h
  cases ry
  rcases hq with hq | hq
  · obtain ⟨its, r, pl, hz⟩ := I.list hq
    refine SeqAt.in_listAt (eqU x) pl.isList (fun w hw => mem_eqAt rx fx r fs w (by simpa using hw)) ⟨.bl _, H, I, rfl, ?_⟩
    rw [show its.toArray.any (eqU x) = its.any (eqU x) by simp, any_eqU r fs]
    exact q
  · obtain ⟨its, r, pl, hz⟩ := I.tuple hq
    refine SeqAt.in_tupleAt (eqU x) pl (fun w hw => mem_eqAt rx fx r fs w (by simpa using hw)) ⟨.bl _, H, I, rfl, ?_⟩
    rw [show its.toArray.any (eqU x) = its.any (eqU x) by simp, any_eqU r fs]
    exact q
theorem call_len_seq : CallR X (.builtin "len") (fun xs H Q => ∃ p ys, xs = [.ref p] ∧ (SqL X.K H p ys ∨ SqT X.K H p ys) ∧ Q (.int ys.length) H) := by
  intro pins s σ H xs us Q I r h
  obtain ⟨p, ys, rfl, hq, q⟩ := h
  obtain ⟨u, rfl, rx⟩ := vals1 r
  cases rx
  have hn := line63
  rcases hq with hq | hq
  · obtain ⟨its, r', pl, hz⟩ := I.list hq
    have hlen := r'.length
    exact Calls.call_len_list pl.isList (by simp only [List.size_toArray] <;> omega) ⟨.int ys.length, H, I.tok _, ⟨s.toks + 1, by rw [List.size_toArray, hlen]⟩, q⟩
  · obtain ⟨its, r', pl, hz⟩ := I.tuple hq
    have hlen := r'.length
    exact len_tuple pl (by simp only [List.size_toArray] <;> omega) ⟨.int ys.length, H, I.tok _, ⟨s.toks + 1, by rw [List.size_toArray, hlen]⟩, q⟩
theorem CallR.or {f : Value} {r r' : List V → Hp → VK → Prop} (h : CallR X f r) (h' : CallR X f r') : CallR X f (fun xs H Q => r xs H Q ∨ r' xs H Q) := by
  intro pins s σ H xs us Q I rs q
  rcases q with q | q
  · exact h pins s σ H xs us Q I rs q
  · exact h' pins s σ H xs us Q I rs q
theorem call_list_of : CallR X (.type "list") (fun xs H Q => ∃ p ys, xs = [.ref p] ∧ (SqL X.K H p ys ∨ SqT X.K H p ys) ∧ ∀ l, H l = none → Q (.ref l) (upd H l (.lst ys))) := by
  intro pins s σ H xs us Q I r h
  obtain ⟨p, ys, rfl, hq, q⟩ := h
  obtain ⟨u, rfl, rx⟩ := vals1 r
  cases rx
  have fin : ∀ (its : List Value), Vals ys its → ys.length ≤ sizeLine → ∀ (h' : Heap) (c' : Nat), (∀ b o', s.heap.get? b = some o' → h'.get? b = some o') →
      h'.get? s.heap.objs.size = some { cls := .type "list", dict := none, data := .seq its.toArray c', slots := #[] } → EP X pins σ Q (.ref s.heap.objs.size) { s with heap := h' } := fun its r' hz h' c' kp e =>
    ⟨.ref s.heap.objs.size, _, I.laid (t' := s.toks) kp (Nat.le_refl _) (show ObjOk X.prog X.w _ h' _ (.lst ys) from ⟨hz, its, c', r', e⟩), rfl, q _ (I.hok.fresh (Nat.le_refl _))⟩
  rcases hq with hq | hq
  · obtain ⟨its, r', pl, hz⟩ := I.list hq
    have hlen := r'.length
    obtain ⟨o, ho, hc, n, hd⟩ := pl.isList
    exact call_list_seq p (.inl rfl) ho hc hd (fun h' c' kp e => fin its r' hz h' c' kp e) (by simp only [List.size_toArray] <;> omega)
  · obtain ⟨its, r', pl, hz⟩ := I.tuple hq
    have hlen := r'.length
    obtain ⟨o, ho, hc, n, hd⟩ := pl
    exact call_list_seq p (.inr rfl) ho hc hd (fun h' c' kp e => fin its r' hz h' c' kp e) (by simp only [List.size_toArray] <;> omega)
/-- the value is of that builtin type -/
def tyV (K : PySem.W.Frag) (T : String) (x : V) (H : Hp) : Prop := match x with
  | .str _ => T = "str"
  | .int _ => T = "int"
  | .ref p => (T = "list" ∧ ∃ xs, SqL K H p xs) ∨ (T = "tuple" ∧ ∃ o, K.lookup p = some o ∧ o.cls = .type "tuple" ∧ o.dict = none) ∨
      (T = "dict" ∧ ((∃ kvs, H p = some (.dK kvs)) ∨ ∃ kvs, H p = some (.dT kvs))) ∨ (T = "set" ∧ ∃ S n, H p = some (.set S n))
  | _ => False
theorem tyV_is {pins : List (Addr × Obj)} {σ : St} {H : Hp} {s : Shared} {T : String} {x : V} {v : Value} (I : Inv X pins σ H s) (r : RelV x v) (ty : tyV X.K T x H) :
    s.TypeIs v T ∧ ∀ a, v = .ref a → ∃ ob, s.heap.get? a = some ob ∧ ob.dict = none := by
  cases x with
  | str z =>
    obtain ⟨t, rfl⟩ := r
    cases (show T = "str" from ty)
    exact ⟨typeIs_str s z t, fun _ e => nomatch e⟩
  | int i =>
    obtain ⟨t, rfl⟩ := r
    cases (show T = "int" from ty)
    exact ⟨typeIs_int s i t, fun _ e => nomatch e⟩
  | ref p =>
    cases r
    rcases ty with ⟨rfl, xs, hq⟩ | ⟨rfl, o, hk, hc, hd⟩ | ⟨rfl, hk⟩ | ⟨rfl, S, n, hk⟩
    · obtain ⟨its, _, pl, _⟩ := I.list hq
      refine ⟨pl.isList.typeIs, fun a e => ?_⟩
      cases e
      obtain ⟨o, n, e, c, hd, _⟩ := pl
      exact ⟨o, e, hd⟩
    · refine ⟨⟨o, I.kIn p o hk, hc⟩, fun a e => ?_⟩
      cases e
      exact ⟨o, I.kIn _ o hk, hd⟩
    · have z : ∃ o, s.heap.get? p = some o ∧ o.ExactDict := by
        rcases hk with ⟨kvs, hk⟩ | ⟨kvs, hk⟩
        · obtain ⟨_, _, _, _, o, _, _, e, ex, _⟩ := I.hok p _ hk
          exact ⟨o, e, ex⟩
        · obtain ⟨_, _, _, _, o, _, _, e, ex, _⟩ := I.hok p _ hk
          exact ⟨o, e, ex⟩
      obtain ⟨o, e, ex⟩ := z
      refine ⟨⟨o, e, ex.1⟩, fun a e2 => ?_⟩
      cases e2
      exact ⟨o, e, ex.2.1⟩
    · obtain ⟨o, _, _, _, e, ex, _⟩ := I.hok p _ hk
      refine ⟨⟨o, e, ex.1⟩, fun a e2 => ?_⟩
      cases e2
      exact ⟨o, e, ex.2.1⟩
  | _ => exact False.elim ty
def tBM0 (K : PySem.W.Frag) (T : String) (r : V → List V → Hp → VK → Prop) (to : TE) : TE := fun σ H Q => to σ H fun x H1 => tyV K T x H1 ∧ r x [] H1 Q
def tBM (K : PySem.W.Frag) (T : String) (r : V → List V → Hp → VK → Prop) (to : TE) (t : TA) : TE := fun σ H Q => to σ H fun x H1 => tyV K T x H1 ∧ t σ H1 fun xs H2 => r x xs H2 Q
variable {o e : Expr} {es : List Expr} {to : TE} {t : TA} {name : Str} {apos cpos : Pos} {T id : String} {r : V → List V → Hp → VK → Prop}
theorem pe_bm0 (pa : PlainAttrs T) (slot : Slot T name id) (hty : typeOf (.builtin id) = pure (.type "method_descriptor")) (hm : MtR X id r) (ho : PE X o to)
    (hbase : attributeBase o name X.env (eval o X.env) = eval o X.env := by rfl) (hline : (apos.endLine == cpos.line) = true := by rfl) : PE X (.Call (.Attribute o name apos) [] [] cpos) (tBM0 X.K T r to) := by
  intro pins s σ H Q I h
  refine wpAny_Call_method0_late hbase hline (thn (ho pins s σ H _ I h) fun v s1 ⟨x, H1, I1, r1, ty, q1⟩ => ?_)
  obtain ⟨h1, h2⟩ := tyV_is I1 r1 ty
  exact ⟨T, id, pa, slot, hty, h1, h2, Calls.callWith_builtin rfl (PySem.evalArgs_none (hm pins s1 σ H1 x [] v [] Q I1 r1 .nil q1))⟩
theorem pe_bm (pa : PlainAttrs T) (slot : Slot T name id) (hty : typeOf (.builtin id) = pure (.type "method_descriptor")) (hm : MtR X id r) (ho : PE X o to) (ha : PA X (e :: es) t)
    (hbase : attributeBase o name X.env (eval o X.env) = eval o X.env := by rfl)
    (hfew : ((backTo cpos (starEach (e :: es) X.env)).all (fun x => !x.1) && (backToKw cpos (keywordEach [] X.env)).all (fun x => x.1.isSome)
      && decide ((e :: es).length + ([] : List Keyword).length + (if ([] : List Keyword).isEmpty then 0 else 1) < 30)) = true := by rfl)
    (hline : (apos.endLine == cpos.line) = true := by rfl) (hs : starEach (e :: es) X.env = (false, eval e X.env) :: starEach es X.env := by rfl) (hplain : (backTo cpos (starEach es X.env)).any (·.1) = false := by rfl) :
    PE X (.Call (.Attribute o name apos) (e :: es) [] cpos) (tBM X.K T r to t) := by
  intro pins s σ H Q I h
  refine wpAny_Call_method_late hbase hfew hline rfl (thn (ho pins s σ H _ I h) fun v s1 ⟨x, H1, I1, r1, ty, q1⟩ => ?_)
  obtain ⟨h1, h2⟩ := tyV_is I1 r1 ty
  refine ⟨T, id, pa, slot, hty, h1, h2, ?_⟩
  have hA := ha cpos pins s1 σ H1 _ I1 q1
  rw [hs] at hA ⊢
  refine Calls.callWith_builtin (by show (false || (backTo cpos (starEach es X.env)).any (·.1)) = false; rw [hplain] <;> rfl) (Calls.evalArgs_plain ?_)
  exact thn hA fun us s2 ⟨vs, H2, I2, r2, q2⟩ => hm pins s2 σ H2 x vs v us Q I2 r1 r2 q2
end
end L2

namespace L2
open PySem PySem.Spec PyProof.Rows

def MtM (X : Cx) (id : String) (r : V → List V → Hp → VK → Prop) : Prop :=
  ∀ (pins : List (Addr × Obj)) (s : Shared) (σ : St) (H : Hp) (x : V) (xs : List V) (v : Value) (us : List Value) (Q : VK), Inv X pins σ H s → RelV x v → Vals xs us → r x xs H Q →
    wpAny (model X.prog X.w) X.A (call (.builtin id) (v :: us)) (EP X pins σ Q) X.xe s

theorem Vals.one : ∀ {x : V} {us : List Value}, Vals [x] us → ∃ u, us = [u] ∧ RelV x u
  | _, _, .cons r .nil => ⟨_, rfl, r⟩
theorem Vals.two : ∀ {x y : V} {us : List Value}, Vals [x, y] us → ∃ u v, us = [u, v] ∧ RelV x u ∧ RelV y v
  | _, _, _, .cons r (.cons q .nil) => ⟨_, _, rfl, r, q⟩
theorem Vals.zero : ∀ {us : List Value}, Vals [] us → us = []
  | _, .nil => rfl
theorem Vals.dropLast {xs : List V} {us : List Value} (h : Vals xs us) : Vals xs.dropLast us.dropLast := by
  induction h with
  | nil => exact .nil
  | cons r t ih =>
    cases t with
    | nil => exact .nil
    | cons q t' => exact .cons r ih
theorem Vals.eraseIdx : ∀ {xs : List V} {us : List Value} (i : Nat), Vals xs us → Vals (xs.eraseIdx i) (us.eraseIdx i)
  | _, _, _, .nil => .nil
  | _, _, 0, .cons _ t => t
  | _, _, i + 1, .cons r t => .cons r (Vals.eraseIdx i t)
theorem Vals.reverse {xs : List V} {us : List Value} (h : Vals xs us) : Vals xs.reverse us.reverse := by
  induction h with
  | nil => exact .nil
  | cons r t ih => rw [List.reverse_cons, List.reverse_cons]; exact Vals.append ih (.cons r .nil)
theorem Vals.rep {xs : List V} {us : List Value} (h : Vals xs us) : ∀ k : Nat, Vals (List.replicate k xs).flatten (List.replicate k us).flatten
  | 0 => .nil
  | k + 1 => by
    rw [List.replicate_succ, List.replicate_succ, List.flatten_cons, List.flatten_cons]
    exact Vals.append h (Vals.rep h k)
theorem erase_last {α : Type} (l : List α) : l.eraseIdx (l.length - 1) = l.dropLast := by
  induction l with
  | nil => rfl
  | cons a r ih =>
    cases r with
    | nil => rfl
    | cons b r =>
      have e : (a :: b :: r).length - 1 = ((b :: r).length - 1) + 1 := by
        have h1 : (a :: b :: r).length = r.length + 2 := rfl
        have h2 : (b :: r).length = r.length + 1 := rfl
        omega
      rw [e, List.eraseIdx_cons_succ, ih]
      all_goals rfl
theorem len_erase {α : Type} : ∀ (l : List α) (i : Nat), (l.eraseIdx i).length ≤ l.length
  | [], _ => Nat.le_refl _
  | _ :: _, 0 => Nat.le_succ _
  | _ :: r, i + 1 => Nat.succ_le_succ (len_erase r i)
theorem foldl_rep (its : List Value) : ∀ (k : Nat) (acc : List Value),
    List.foldl (fun x1 x2 => x1 ++ x2) acc.toArray (List.replicate k its.toArray) = (acc ++ (List.replicate k its).flatten).toArray
  | 0, acc => by simp
  | k + 1, acc => by
    have e : acc.toArray ++ its.toArray = (acc ++ its).toArray := by simp
    have e2 : (acc ++ its) ++ (List.replicate k its).flatten = acc ++ (List.replicate (k + 1) its).flatten := by
      rw [List.replicate_succ, List.flatten_cons, List.append_assoc]
    rw [← e2, ← foldl_rep its k (acc ++ its), ← e, List.replicate_succ, List.foldl_cons]

section
variable {X : Cx} {pins : List (Addr × Obj)} {σ : St} {H : Hp} {s : Shared} {l b : Addr} {xs ys zs : List V}

theorem Inv.lset {its its' : List Value} {n : Nat} {f : Array Value → Array Value} {t' : Nat} (I : Inv X pins σ H s) (hH : H l = some (.lst xs))
    (e : s.heap.get? l = some { cls := .type "list", data := .seq its.toArray n }) (hf : f its.toArray = its'.toArray) (hv : Vals ys its') (hz : ys.length ≤ sizeLine) :
    Inv X pins σ (upd H l (.lst ys)) { s with heap := s.heap.update l (Obj.mapSeq f), toks := t' } := by
  have q := PySem.IsL.update e f
  rw [hf] at q
  refine I.write (x := l) (e := l) (by rw [hH]; exact trivial) (.inl rfl) (fun b' u hb hu => (Heap.get?_update_other s.heap (Obj.mapSeq f) (Ne.symm hb)).trans hu) ⟨_, q⟩ ?_
  exact ⟨hz, its', _, hv, q⟩
theorem Inv.lnew {its : List Value} {t' : Nat} (I : Inv X pins σ H s) (hv : Vals ys its) (hz : ys.length ≤ sizeLine) :
    Inv X pins σ (upd H s.heap.objs.size (.lst ys)) { s with heap := s.heap.push { cls := .type "list", data := .seq its.toArray }, toks := t' } :=
  I.laid (fun _ _ q => Heap.get?_push_of_some _ q) (Nat.le_refl _) ⟨hz, its, 0, hv, Heap.get?_push_size _ rfl⟩
theorem Inv.fresh (I : Inv X pins σ H s) : H s.heap.objs.size = none := I.hok.fresh (Nat.le_refl _)
theorem Inv.lstM (I : Inv X pins σ H s) (hH : H l = some (.lst xs)) : xs.length ≤ sizeLine ∧ ∃ (its : List Value) (n : Nat), Vals xs its ∧ xs.length = its.length ∧ s.heap.get? l = some { cls := .type "list", data := .seq its.toArray n } := by
  obtain ⟨z, its, n, r, e⟩ := I.hok l _ hH
  exact ⟨z, its, n, r, r.length, e⟩

theorem notLongL {n : Nat} (h : n ≤ sizeLine) : Builtin.List.listTooLong n = false := by
  unfold Builtin.List.listTooLong
  exact decide_eq_false (by omega)
end

section
variable {X : Cx}

def rAppend : V → List V → Hp → VK → Prop := fun x vs H Q => ∃ l xs y, x = .ref l ∧ vs = [y] ∧ H l = some (.lst xs) ∧ xs.length < sizeLine ∧ Q .non (upd H l (.lst (xs ++ [y])))
theorem mt_append : MtM X "list.append" rAppend := by
  intro pins s σ H x vs v us Q I rx rv h
  obtain ⟨l, xs, y, rfl, rfl, hH, hz, q⟩ := h
  cases rx
  obtain ⟨u, rfl, ru⟩ := rv.one
  obtain ⟨z, its, n, r, hl, e⟩ := I.lstM hH
  refine call_meets F.slot_list_append ⟨_, e, rfl⟩ F.entry_list_append (F.args_list_append_2 _ _) (PySem.list_append l its.toArray n u (by rw [List.size_toArray]; omega)) ⟨e, ?_⟩
  refine ⟨.non, _, I.lset (its' := its ++ [u]) hH e (by simp) (r.append (.cons ru .nil)) ?_, rfl, q⟩
  rw [List.length_append, List.length_singleton]
  omega

def rExtend : V → List V → Hp → VK → Prop := fun x vs H Q => ∃ l b xs zs, x = .ref l ∧ vs = [.ref b] ∧ H l = some (.lst xs) ∧ H b = some (.lst zs) ∧ xs.length + zs.length ≤ sizeLine ∧ Q .non (upd H l (.lst (xs ++ zs)))
theorem mt_extend : MtM X "list.extend" rExtend := by
  intro pins s σ H x vs v us Q I rx rv h
  obtain ⟨l, b, xs, zs, rfl, rfl, hH, hB, hz, q⟩ := h
  cases rx
  obtain ⟨u, rfl, ru⟩ := rv.one
  cases ru
  obtain ⟨z, its, n, r, hl, e⟩ := I.lstM hH
  obtain ⟨z2, its2, n2, r2, hl2, e2⟩ := I.lstM hB
  have hsz : its.toArray.size + its2.toArray.size ≤ sizeLine := by rw [List.size_toArray, List.size_toArray]; omega
  have hlong : ¬ (!its.toArray.isEmpty && Builtin.List.listTooLong (its.toArray.size + its2.toArray.size)) = true := by
    rw [notLongL hsz, Bool.and_false]
    exact Bool.false_ne_true
  refine call_meets F.slot_list_extend ⟨_, e, rfl⟩ F.entry_list_extend (F.args_list_extend_2 _ _)
    (AutoSeq1.list_extend_list_list_0 l its.toArray n b its2.toArray n2 hlong (by rw [List.size_toArray]; omega) (by omega)) ⟨e, e2, ?_⟩
  refine ⟨.non, _, I.lset (its' := its ++ its2) hH e (by simp) (r.append r2) ?_, rfl, q⟩
  rw [List.length_append]
  omega

def rPop : V → List V → Hp → VK → Prop := fun x vs H Q => ∃ l xs y, x = .ref l ∧ vs = [] ∧ H l = some (.lst xs) ∧ xs[xs.length - 1]? = some y ∧ Q y (upd H l (.lst xs.dropLast))
theorem mt_pop : MtM X "list.pop" rPop := by
  intro pins s σ H x vs v us Q I rx rv h
  obtain ⟨l, xs, y, rfl, rfl, hH, hy, q⟩ := h
  cases rx
  have hus := rv.zero
  subst hus
  obtain ⟨z, its, n, r, hl, e⟩ := I.lstM hH
  obtain ⟨u, hu, ru⟩ := r.get hy
  have hy' : its.toArray[its.toArray.size - 1]? = some u := by
    show its.toArray[its.length - 1]? = some u
    rw [← Array.getElem?_toList, ← hl]
    exact hu
  refine call_meets F.slot_list_pop ⟨_, e, rfl⟩ F.entry_list_pop (F.args_list_pop_1 _) (MeetsSeq.list_pop_last l its.toArray n u hy' (by rw [List.size_toArray]; omega)) ⟨e, ?_⟩
  refine ⟨y, _, I.lset (its' := its.dropLast) hH e ?_ r.dropLast ?_, ru, q⟩
  · show its.toArray.eraseIdxIfInBounds (its.toArray.size - 1) = its.dropLast.toArray
    rw [List.size_toArray, List.eraseIdxIfInBounds_toArray, erase_last]
  · rw [List.length_dropLast]
    omega

def rPopAt : V → List V → Hp → VK → Prop := fun x vs H Q => ∃ l xs i k y, x = .ref l ∧ vs = [.int i] ∧ H l = some (.lst xs) ∧ -(2 ^ 63) ≤ i ∧ i < 2 ^ 63 ∧ seqIndex? i xs.length = some k ∧ xs[k]? = some y ∧ Q y (upd H l (.lst (xs.eraseIdx k)))
theorem mt_popAt : MtM X "list.pop" rPopAt := by
  intro pins s σ H x vs v us Q I rx rv h
  obtain ⟨l, xs, i, k, y, rfl, rfl, hH, h1, h2, hk, hy, q⟩ := h
  cases rx
  obtain ⟨u, rfl, ru⟩ := rv.one
  obtain ⟨t, rfl⟩ := ru
  obtain ⟨z, its, n, r, hl, e⟩ := I.lstM hH
  obtain ⟨w, hw, rw'⟩ := r.get hy
  refine call_meets F.slot_list_pop ⟨_, e, rfl⟩ F.entry_list_pop (F.args_list_pop_2 _ _)
    (MeetsSeq.list_pop_at l its.toArray n i t k w (fitsIndex_both h1 h2) (by rw [List.size_toArray, ← hl]; exact hk) (by rw [← Array.getElem?_toList]; exact hw) (by rw [List.size_toArray]; omega)) ⟨e, ?_⟩
  refine ⟨y, _, I.lset (its' := its.eraseIdx k) hH e ?_ (r.eraseIdx k) ?_, rw', q⟩
  · show its.toArray.eraseIdxIfInBounds k = (its.eraseIdx k).toArray
    rw [List.eraseIdxIfInBounds_toArray]
  · have := len_erase xs k
    omega

def rCat : R2 := fun x y H Q => ∃ l b xs zs, x = .ref l ∧ y = .ref b ∧ H l = some (.lst xs) ∧ H b = some (.lst zs) ∧ xs.length + zs.length ≤ sizeLine ∧ ∀ p, H p = none → Q (.ref p) (upd H p (.lst (xs ++ zs)))
theorem op_cat : OpR X (binaryOp .Add) rCat := by
  intro pins s σ H x y v u Q I rx ry h
  obtain ⟨l, b, xs, zs, rfl, rfl, hH, hB, hz, q⟩ := h
  cases rx
  cases ry
  obtain ⟨z, its, n, r, hl, e⟩ := I.lstM hH
  obtain ⟨z2, its2, n2, r2, hl2, e2⟩ := I.lstM hB
  refine PySem.P.add_list e e2 ?_ (by rw [List.size_toArray, List.size_toArray]; omega)
  have ea : its.toArray ++ its2.toArray = (its ++ its2).toArray := by simp
  rw [ea]
  exact ⟨.ref _, _, I.lnew (t' := s.toks) (r.append r2) (by rw [List.length_append]; omega), rfl, q _ I.fresh⟩
/-- a list times an int (a negative one is nothing) -/
def rRep : R2 := fun x y H Q => ∃ l k xs, x = .ref l ∧ y = .int k ∧ H l = some (.lst xs) ∧ -(2 ^ 63) ≤ k ∧ k < 2 ^ 63 ∧ xs.length * k.toNat ≤ sizeLine ∧
  ∀ p, H p = none → Q (.ref p) (upd H p (.lst (List.replicate k.toNat xs).flatten))
theorem len_rep {α : Type} (xs : List α) (k : Nat) : (List.replicate k xs).flatten.length = k * xs.length := by
  induction k with
  | zero => simp
  | succ k ih => rw [List.replicate_succ, List.flatten_cons, List.length_append, ih, Nat.succ_mul, Nat.add_comm]
theorem op_rep : OpR X (binaryOp .Mult) rRep := by
  intro pins s σ H x y v u Q I rx ry h
  obtain ⟨l, k, xs, rfl, rfl, hH, h1, h2, hz, q⟩ := h
  cases rx
  obtain ⟨t, rfl⟩ := ry
  obtain ⟨z, its, n, r, hl, e⟩ := I.lstM hH
  have hlen : its.toArray.size * k.toNat ≤ sizeLine := by rw [List.size_toArray, ← hl]; exact hz
  have hcap : ¬ its.toArray.size * k.toNat > (2 ^ 63 - 1) / 8 := by
    have : (sizeLine : Nat) ≤ (2 ^ 63 - 1) / 8 := by decide
    omega
  have hfit : ¬ (!Builtin.List.listFitsIndex k) = true := by
    rw [fitsIndex_both h1 h2]
    exact Bool.false_ne_true
  have hlong : ¬ Builtin.List.listTooLong (its.toArray.size * k.toNat) = true := by
    rw [notLongL hlen]
    exact Bool.false_ne_true
  have hnew : List.foldl (fun x1 x2 => x1 ++ x2) #[] (List.replicate (if its.toArray.isEmpty = true then 0 else k.toNat) its.toArray) = (List.replicate k.toNat its).flatten.toArray := by
    have f0 : ∀ m : Nat, List.foldl (fun x1 x2 => x1 ++ x2) #[] (List.replicate m its.toArray) = (List.replicate m its).flatten.toArray := fun m => by
      have := foldl_rep its m []
      rw [List.nil_append] at this
      exact this
    rw [f0]
    cases its with
    | nil => simp
    | cons a r' => rw [if_neg (by simp)]
  refine wpAny_binaryOp_repeat_ref (T := "list") (U := "int") (by decide) ⟨_, e, rfl⟩ (fun s' => typeIs_int s' k t) noFill_list_mul F.fills_int_mul F.slot_int_rmul repeat_list F.slot_int_index.lookup
    (call_meets F.slot_int_rmul (typeIs_int s k t) F.entry_int_rmul (F.args_int_rmul_2 _ _) (int___rmul___int_list k t l its.toArray n)
      ⟨e, rfl, ⟨_, e, rfl⟩, call_meets F.slot_list_mul ⟨_, e, rfl⟩ F.entry_list_mul (F.args_list_mul_2 _ _) (AutoListH.list___mul___list_int_3 l its.toArray n k t hfit hcap hlong) ⟨e, ?_⟩⟩)
  rw [hnew]
  exact ⟨.ref _, _, I.lnew (t' := s.toks) (r.rep k.toNat) (by rw [len_rep, Nat.mul_comm]; exact hz), rfl, q _ I.fresh⟩

end

section
variable {prog : Program} {w : World} {A : Around} {E : Value → Shared → Prop} {s : Shared}
end

section
variable {X : Cx}
end
end L2

namespace L2
open PySem PySem.Spec PyProof.Rows

theorem Vals.ints : ∀ {ns : List Int} {us : List Value}, Vals (ns.map V.int) us → IntsAre us ns
  | [], us, h => by
    rw [List.map_nil] at h
    cases h
    exact IntsAre.nil
  | n :: ns, us, h => by
    rw [List.map_cons] at h
    cases h with
    | cons r t =>
      obtain ⟨k, rfl⟩ := r
      exact IntsAre.cons n k (Vals.ints t)
theorem vals_of_ints : ∀ {us : List Value} {ns : List Int}, IntsAre us ns → Vals (ns.map V.int) us
  | _, _, .nil => by rw [List.map_nil]; exact Paired.nil
  | _, _, .cons n t h => by rw [List.map_cons]; exact Paired.cons (show RelV (V.int n) (Value.int n t) from ⟨t, rfl⟩) (vals_of_ints h)
theorem Vals.strs : ∀ {xs : List Str} {us : List Value}, Vals (xs.map V.str) us → StrsAre us xs
  | [], us, h => by
    rw [List.map_nil] at h
    cases h
    exact StrsAre.nil
  | x :: xs, us, h => by
    rw [List.map_cons] at h
    cases h with
    | cons r t =>
      obtain ⟨k, rfl⟩ := r
      exact StrsAre.cons x k (Vals.strs t)
theorem Vals.bls : ∀ {bs : List Bool} {us : List Value}, Vals (bs.map V.bl) us → us = bs.map Value.bool
  | [], us, h => by
    rw [List.map_nil] at h
    cases h
    rfl
  | b :: bs, us, h => by
    rw [List.map_cons] at h
    cases h with
    | cons r t =>
      cases r
      rw [Vals.bls t, List.map_cons]
theorem Vals.ref1 {a : Addr} {us : List Value} (r : Vals [V.ref a] us) : us = [Value.ref a] := by
  cases r with
  | cons r t =>
    cases t
    cases r
    rfl
section
variable {prog : Program} {w : World} {A : Around} {E : Value → Shared → Prop} {s : Shared} {l : Addr} {its : List Value} {ns : List Int} {Q : Value → Shared → Prop}
theorem min_raw (hh : A.handled = none) (hl : s.heap.IsList l its.toArray) (hi : IntsAre its ns) (hne : 0 < ns.length)
    (h : ∀ h' tk M t', (∀ b o, s.heap.get? b = some o → h'.get? b = some o) → M ∈ ns → (∀ a, a ∈ ns → M ≤ a) → Q (.int M t') { s with heap := h', toks := tk }) : wpAny (model prog w) A (call (.builtin "min") [.ref l]) Q E s := by
  obtain ⟨xs, e⟩ := hi.allInts.items
  have hn : numsOf (intItems xs).toList = ns := by rw [← e]; exact hi.numsOf
  rw [nums_intItems] at hn
  subst hn
  rw [e] at hl
  have hsz : 0 < xs.size := by simpa using hne
  refine PySem.min_intList hh hl hsz fun v h' tk hv hk => ?_
  obtain ⟨t, rfl⟩ := intItems_at hv
  obtain ⟨h1, h2⟩ := argBest_lt (numAt xs) (xs.size - 1)
  refine h h' tk _ t hk ?_ fun a ha => ?_
  · rw [numAt_eq]; exact PySem.getD_mem (by rw [List.length_map, Array.length_toList]; omega)
  · obtain ⟨j, hj, rfl⟩ := mem_getD ha
    rw [List.length_map, Array.length_toList] at hj
    rw [← numAt_eq]; exact h2 j (by omega)
end

section
variable {X : Cx}
def rMin (K : PySem.W.Frag) : List V → Hp → VK → Prop := fun vs H Q => ∃ (a : Addr) (ns : List Int), vs = [V.ref a] ∧ SqL K H a (ns.map V.int) ∧ 0 < ns.length ∧ ∀ m, m ∈ ns → (∀ y, y ∈ ns → m ≤ y) → Q (.int m) H
theorem cr_min (hc : X.calm = true) : CallR X (.builtin "min") (rMin X.K) := by
  intro pins s σ H vs us Q I r h
  obtain ⟨a, ns, rfl, hs, hne, q⟩ := h
  obtain ⟨its, rv, hl, _⟩ := I.list hs
  rw [Vals.ref1 r]
  exact min_raw (I.ok.hd hc) hl.isList rv.ints hne fun h' tk m t' hk h1 h2 => ⟨.int _, H, I.kept hk, ⟨_, rfl⟩, q m h1 h2⟩

end

section
variable {X : Cx}
def rIndex (K : PySem.W.Frag) : V → List V → Hp → VK → Prop := fun x xs H Q => ∃ (a : Addr) (ys : List V) (y : V) (j : Nat) (z : V), x = V.ref a ∧ xs = [y] ∧ SqL K H a ys ∧ flatV y = true ∧ ys.all flatV = true ∧ ys[j]? = some z ∧ eqV z y = true ∧
  (∀ (m : Nat) (z' : V), m < j → ys[m]? = some z' → eqV z' y = false) ∧ Q (.int (j : Nat)) H
theorem flat_at {ys : List V} (f : ys.all flatV = true) {j : Nat} {z : V} (h : ys[j]? = some z) : flatV z = true := List.all_eq_true.mp f z (List.mem_of_getElem? h)
theorem mt_index : MtR X "list.index" (rIndex X.K) := by
  intro pins s σ H x xs v us Q I rx rxs h
  obtain ⟨a, ys, y, j, z, rfl, rfl, hs, fy, fys, hz, hzj, hno, q⟩ := h
  cases rx
  cases rxs with
  | cons ry rt =>
    rename_i uy ut
    cases rt
    obtain ⟨its, rv, ⟨⟨cls, dd, data, sl⟩, n, ho, hc, hdn, hd⟩, hlen⟩ := I.list hs
    simp only at hc hd
    subst hc hd
    obtain ⟨u, hu, ru⟩ := rv.get hz
    obtain ⟨hjl, hje⟩ := List.getElem?_eq_some_iff.mp hu
    have hvl := rv.length
    have hj : j < its.toArray.size := by simpa using hjl
    have hsl := sizeLine_eq
    refine call_meets PySem.F.slot_list_index ⟨_, ho, rfl⟩ PySem.F.entry_list_index (PySem.F.args_list_index_2 _ _)
      (SeqAt.list_indexAt a its.toArray n dd sl uy (eqU y) j hj (by omega) ?_ ?_) ⟨ho, fun u' hu' => mem_eqAt ry fy rv fys u' (by simpa using hu'), ?_⟩
    · have e1 : its.toArray[j] = u := by simpa using hje
      rw [e1, eqU_of ru (flat_at fys hz)]
      exact hzj
    · intro m hm hmj
      have hml : m < its.length := by simpa using hm
      have hmy : m < ys.length := by omega
      have hy' : ys[m]? = some ys[m] := List.getElem?_eq_getElem hmy
      obtain ⟨u2, hu2, ru2⟩ := rv.get hy'
      obtain ⟨_, hme⟩ := List.getElem?_eq_some_iff.mp hu2
      have e1 : its.toArray[m] = u2 := by simpa using hme
      rw [e1, eqU_of ru2 (flat_at fys hy')]
      exact hno m _ hmj hy'
    · exact ⟨.int (j : Nat), H, I.tok _, ⟨_, rfl⟩, q⟩
end

section
variable {X : Cx}
end

section
variable {X : Cx}
end

mutual
inductive Dp (K : PySem.W.Frag) (H : Hp) : V → PyData → Prop
  | non : Dp K H .non .none
  | bl (b : Bool) : Dp K H (.bl b) (.bool b)
  | int (i : Int) : Dp K H (.int i) (.int i)
  | str (x : Str) : Dp K H (.str x) (.str x)
  | lst {a : Addr} {xs : List V} {ds : List PyData} : SqL K H a xs → DpAll K H xs ds → Dp K H (.ref a) (.list ds)
  | tup {a : Addr} {xs : List V} {ds : List PyData} : SqT K H a xs → DpAll K H xs ds → Dp K H (.ref a) (.tuple ds)
inductive DpAll (K : PySem.W.Frag) (H : Hp) : List V → List PyData → Prop
  | nil : DpAll K H [] []
  | cons {v : V} {vs : List V} {d : PyData} {ds : List PyData} : Dp K H v d → DpAll K H vs ds → DpAll K H (v :: vs) (d :: ds)
end
section
variable {X : Cx} {pins : List (Addr × Obj)} {σ : St} {H : Hp} {s : Shared}
mutual
theorem Dp.reads (I : Inv X pins σ H s) : ∀ (d : PyData) (v : V) (u : Value), Dp X.K H v d → RelV v u → ∃ as, Reads s.heap u d as
  | .none, _, _, h, r => by
    cases h
    cases r
    exact ⟨_, Reads.none⟩
  | .bool b, _, _, h, r => by
    cases h
    cases r
    exact ⟨_, Reads.bool b⟩
  | .int i, _, _, h, r => by
    cases h
    obtain ⟨t, rfl⟩ := r
    exact ⟨_, Reads.int i t⟩
  | .str x, _, _, h, r => by
    cases h
    obtain ⟨t, rfl⟩ := r
    exact ⟨_, Reads.str x t⟩
  | .list ds, _, _, h, r => by
    cases h with
    | lst hs ha =>
      cases r
      obtain ⟨its, rv, ⟨o, n, ho, hc, _, hd⟩, _⟩ := I.list hs
      obtain ⟨as, hr⟩ := Dp.readsAll I ds _ its ha rv
      exact ⟨_, Reads.list ho hc hd hr⟩
  | .tuple ds, _, _, h, r => by
    cases h with
    | tup hs ha =>
      cases r
      obtain ⟨its, rv, ⟨o, ho, hc, n, hd⟩, _⟩ := I.tuple hs
      obtain ⟨as, hr⟩ := Dp.readsAll I ds _ its ha rv
      exact ⟨_, Reads.tuple ho hc hd hr⟩
  | .dict _, _, _, h, _ => by cases h
theorem Dp.readsAll (I : Inv X pins σ H s) : ∀ (ds : List PyData) (vs : List V) (us : List Value), DpAll X.K H vs ds → Vals vs us → ∃ as, ReadsAll s.heap us ds as
  | [], _, _, h, r => by
    cases h
    cases r
    exact ⟨_, ReadsAll.nil⟩
  | d :: ds, _, _, h, r => by
    cases h with
    | cons h1 h2 =>
      cases r with
      | cons r1 r2 =>
        obtain ⟨as, q1⟩ := Dp.reads I d _ _ h1 r1
        obtain ⟨bs, q2⟩ := Dp.readsAll I ds _ _ h2 r2
        exact ⟨_, ReadsAll.cons q1 q2⟩
end
end
section
variable {X : Cx}
def rEqD (K : PySem.W.Frag) : R2 := fun x y H Q => ∃ d e, Dp K H x d ∧ Dp K H y e ∧ SeqAt.shaped d = true ∧ SeqAt.shaped e = true ∧ Q (.bl (PyData.eqv d e)) H
def rNeD (K : PySem.W.Frag) : R2 := fun x y H Q => ∃ d e, Dp K H x d ∧ Dp K H y e ∧ SeqAt.shaped d = true ∧ SeqAt.shaped e = true ∧ Q (.bl (!PyData.eqv d e)) H
theorem op_eqD (hu : X.A.units + 64 < cLine) : OpR X (compareOp .Eq) (rEqD X.K) := by
  intro pins s σ H x y v u Q I rx ry h
  obtain ⟨d, e, hd, he, sd, se, q⟩ := h
  obtain ⟨as, r1⟩ := Dp.reads I d x v hd rx
  obtain ⟨bs, r2⟩ := Dp.reads I e y u he ry
  exact SeqAt.compareEq_shaped r1 r2 sd se hu ⟨.bl _, H, I, rfl, q⟩
theorem op_neD (hu : X.A.units + 64 < cLine) : OpR X (compareOp .NotEq) (rNeD X.K) := by
  intro pins s σ H x y v u Q I rx ry h
  obtain ⟨d, e, hd, he, sd, se, q⟩ := h
  obtain ⟨as, r1⟩ := Dp.reads I d x v hd rx
  obtain ⟨bs, r2⟩ := Dp.reads I e y u he ry
  exact SeqAt.compareNe_shaped r1 r2 sd se hu ⟨.bl _, H, I, rfl, q⟩
end
end L2

namespace L2
open PySem PySem.Spec PyProof.Rows
abbrev CellAt (h : Heap) (c : Addr) (v : Option Value) : Prop := h.IsCell c v
def relS (scope sc : Scope) : Scope :=
  { scope with names := scope.names.map fun (n, k) => if (k == .free && sc.kind == .function && sc.names.lookup n == some .cell) then (n, .cell) else (n, k) }

def cloFrom (cells : List (Str × Addr)) : List (Str × NameKind) → List (Str × Addr) → List (Str × Addr)
  | [], acc => acc
  | (n, k) :: r, acc => if k == .free then cloFrom cells r ((n, (cells.lookup n).getD 0) :: acc) else cloFrom cells r acc

theorem closure_loop (env : Env) (f : Str × NameKind → List (Str × Addr) → Sem (ForInStep (List (Str × Addr))))
    (hf : ∀ n k c, f (n, k) c = if k == .free then (do let a ← cellOf env n; pure (.yield ((n, a) :: c))) else pure (.yield c)) :
    ∀ (names : List (Str × NameKind)) (acc : List (Str × Addr)), (∀ y ∈ names, y.2 = .free → ∃ c, env.cells.lookup y.1 = some c) → forIn names acc f = pure (cloFrom env.cells names acc)
  | [], acc, _ => by rw [List.forIn_nil]; rfl
  | (n, k) :: r, acc, h => by
    rw [List.forIn_cons, hf]
    have ih := fun acc => closure_loop env f hf r acc fun y hy => h y (List.mem_cons_of_mem _ hy)
    unfold cloFrom
    by_cases hk : (k == NameKind.free) = true
    · rw [if_pos hk, if_pos hk]
      obtain ⟨c, hc⟩ := h (n, k) List.mem_cons_self (by simpa using hk)
      have e : cellOf env n = pure c := by unfold cellOf; rw [hc]
      rw [e]
      have e2 : (env.cells.lookup n).getD 0 = c := by rw [hc]; rfl
      rw [e2]
      exact ih _
    · rw [if_neg hk, if_neg hk]
      exact ih _
theorem closure_ok {scope : Scope} {env : Env} (h : ∀ y ∈ scope.names, y.2 = .free → ∃ c, env.cells.lookup y.1 = some c) : closureFor scope env = pure (cloFrom env.cells scope.names []) := by
  simp only [closureFor]
  rw [closure_loop env _ (fun n k c => rfl) scope.names [] h]
  rfl

theorem mem_lookup {α : Type} : ∀ {l : List (Str × α)} {n : Str} {c : α}, (n, c) ∈ l → ∃ c', l.lookup n = some c'
  | (k, v) :: r, n, c, h => by
    rw [List.lookup_cons]
    cases hb : n == k with
    | true => exact ⟨_, rfl⟩
    | false =>
      rcases List.mem_cons.mp h with e | h
      · cases e; simp at hb
      · exact mem_lookup h

theorem cloFrom_mem {cells : List (Str × Addr)} : ∀ {names : List (Str × NameKind)} {acc : List (Str × Addr)} {n : Str} {c : Addr}, (n, c) ∈ cloFrom cells names acc → (n, c) ∈ acc ∨ ((n, .free) ∈ names ∧ c = (cells.lookup n).getD 0)
  | [], _, _, _, h => .inl h
  | (m, k) :: r, acc, n, c, h => by
    unfold cloFrom at h
    split at h
    · rename_i hk
      have hk : k = .free := by simpa using hk
      rcases cloFrom_mem h with h | ⟨h1, h2⟩
      · rcases List.mem_cons.mp h with e | h
        · cases e; exact .inr ⟨hk ▸ List.mem_cons_self, rfl⟩
        · exact .inl h
      · exact .inr ⟨List.mem_cons_of_mem _ h1, h2⟩
    · rcases cloFrom_mem h with h | ⟨h1, h2⟩
      · exact .inl h
      · exact .inr ⟨List.mem_cons_of_mem _ h1, h2⟩
theorem cloFrom_acc {cells : List (Str × Addr)} : ∀ {names : List (Str × NameKind)} {acc : List (Str × Addr)} {p : Str × Addr}, p ∈ acc → p ∈ cloFrom cells names acc
  | [], _, _, h => h
  | (m, k) :: r, acc, p, h => by
    unfold cloFrom
    split
    · exact cloFrom_acc (List.mem_cons_of_mem _ h)
    · exact cloFrom_acc h
theorem cloFrom_has {cells : List (Str × Addr)} : ∀ {names : List (Str × NameKind)} {acc : List (Str × Addr)} {n : Str}, (n, .free) ∈ names → (n, (cells.lookup n).getD 0) ∈ cloFrom cells names acc
  | (m, k) :: r, acc, n, h => by
    unfold cloFrom
    rcases List.mem_cons.mp h with e | h
    · cases e
      exact cloFrom_acc List.mem_cons_self
    · split
      · exact cloFrom_has h
      · exact cloFrom_has h

theorem cells_mem : ∀ {names : List (Str × NameKind)} {h : Heap} {acc : List (Str × Addr)} {x : Str} {c : Addr}, (x, c) ∈ cellsFrom h.objs.size names acc →
    (x, c) ∈ acc ∨ ((x, .cell) ∈ names ∧ h.objs.size ≤ c ∧ CellAt (pushCells h names) c none)
  | [], _, _, _, _, h => .inl h
  | (n, k) :: r, h, acc, x, c, hm => by
    unfold cellsFrom at hm
    unfold pushCells
    split at hm
    · rename_i hk
      rw [if_pos hk]
      have hk : k = .cell := by simpa using hk
      rw [← Heap.size_push h { cls := .type "cell", data := .cell none }] at hm
      rcases cells_mem hm with hm | ⟨h1, h2, h3⟩
      · rcases List.mem_cons.mp hm with e | hm
        · cases e
          exact .inr ⟨hk ▸ List.mem_cons_self, Nat.le_refl _, _, pushCells_keeps r _ _ _ (Heap.get?_push_size _ rfl), rfl⟩
        · exact .inl hm
      · rw [Heap.size_push] at h2
        exact .inr ⟨List.mem_cons_of_mem _ h1, Nat.le_of_succ_le h2, h3⟩
    · rename_i hk
      rw [if_neg hk]
      rcases cells_mem hm with hm | ⟨h1, h2, h3⟩
      · exact .inl hm
      · exact .inr ⟨List.mem_cons_of_mem _ h1, h2, h3⟩
theorem cells_acc : ∀ {names : List (Str × NameKind)} {n : Nat} {acc : List (Str × Addr)} {p : Str × Addr}, p ∈ acc → p ∈ cellsFrom n names acc
  | [], _, _, _, h => h
  | (m, k) :: r, n, acc, p, h => by
    unfold cellsFrom
    split
    · exact cells_acc (List.mem_cons_of_mem _ h)
    · exact cells_acc h
theorem cells_has : ∀ {names : List (Str × NameKind)} {n : Nat} {acc : List (Str × Addr)} {x : Str}, (x, .cell) ∈ names → ∃ c, (x, c) ∈ cellsFrom n names acc
  | (m, k) :: r, n, acc, x, h => by
    unfold cellsFrom
    rcases List.mem_cons.mp h with e | h
    · cases e
      exact ⟨n, cells_acc List.mem_cons_self⟩
    · split
      · exact cells_has h
      · exact cells_has h
theorem cells_inj : ∀ {names : List (Str × NameKind)} {h : Heap} {acc : List (Str × Addr)} {x y : Str} {c : Addr}, (∀ p ∈ acc, p.2 < h.objs.size) → (∀ x y c, (x, c) ∈ acc → (y, c) ∈ acc → x = y) →
    (x, c) ∈ cellsFrom h.objs.size names acc → (y, c) ∈ cellsFrom h.objs.size names acc → x = y
  | [], _, _, _, _, _, _, hi, h1, h2 => hi _ _ _ h1 h2
  | (n, k) :: r, h, acc, x, y, c, hl, hi, h1, h2 => by
    unfold cellsFrom at h1 h2
    split at h1
    · rename_i hk
      rw [if_pos hk] at h2
      rw [← Heap.size_push h { cls := .type "cell", data := .cell none }] at h1 h2
      refine cells_inj (h := h.push _) (fun p hp => ?_) (fun x y c a b => ?_) h1 h2
      · rw [Heap.size_push]
        rcases List.mem_cons.mp hp with rfl | hp
        · exact Nat.lt_succ_self _
        · exact Nat.lt_succ_of_lt (hl p hp)
      · rcases List.mem_cons.mp a with e | a <;> rcases List.mem_cons.mp b with e' | b
        · cases e; cases e'; rfl
        · cases e; exact absurd (hl _ b) (Nat.lt_irrefl _)
        · cases e'; exact absurd (hl _ a) (Nat.lt_irrefl _)
        · exact hi _ _ _ a b
    · rename_i hk
      rw [if_neg hk] at h2
      exact cells_inj hl hi h1 h2

theorem newEnv_comp {M : Model} {A : Around} {E : Value → Shared → Prop} {s : Shared} {scope : Scope} {globals : Addr} {closure : List (Str × Addr)} {qual : Str} {func : Option Addr} {code : Value} {around : Env} {builtins : Addr} {Q : Env → Shared → Prop}
    (h : Q (newEnv scope s.heap.objs.size globals (cellsFrom (s.heap.objs.size + 1) scope.names closure) qual func code (some around) builtins)
      { s with heap := pushCells (s.heap.push { cls := .type "dict", data := .dict #[] }) scope.names }) :
    wpAny M A (newFunctionEnv scope globals closure [] qual func code (some around) builtins) Q E s := by
  simp only [newFunctionEnv, Option.isSome_some, if_true]
  refine wpAny_bind (wpAny_alloc ?_)
  refine wpAny_bind (wpAny_layCells _ (fun n k c => rfl) scope.names closure _ _ ?_)
  rw [show ({ s with heap := s.heap.push { cls := .type "dict", data := .dict #[] } } : Shared).heap.objs.size = s.heap.objs.size + 1 from Heap.size_push ..]
  rw [List.forIn_nil]
  exact wpAny_bind (wpAny_pure (wpAny_pure h))

/-- every name of the written scope, in the scope that runs -/
theorem lookup_relS {sc : Scope} : ∀ {names : List (Str × NameKind)} {x : Str} {k : NameKind},
    (names.map fun (n, k) => if (k == NameKind.free && sc.kind == .function && sc.names.lookup n == some .cell) then (n, NameKind.cell) else (n, k)).lookup x = some k →
    ∃ k', names.lookup x = some k' ∧ (k = k' ∨ (k' = .free ∧ k = .cell))
  | [], _, _, h => by simp at h
  | (n, k₀) :: r, x, k, h => by
    have ih := @lookup_relS sc r x k
    have h' : List.lookup x ((if (k₀ == NameKind.free && sc.kind == .function && sc.names.lookup n == some .cell) = true then (n, NameKind.cell) else (n, k₀)) :: (r.map _)) = some k := h
    cases hx : x == n with
    | true =>
      simp only [List.lookup_cons, hx]
      by_cases hc : (k₀ == NameKind.free && sc.kind == .function && sc.names.lookup n == some .cell) = true
      · rw [if_pos hc] at h'
        simp only [List.lookup_cons, hx] at h'
        cases h'
        simp only [Bool.and_eq_true, beq_iff_eq] at hc
        exact ⟨k₀, rfl, .inr ⟨hc.1.1, rfl⟩⟩
      · rw [if_neg hc] at h'
        simp only [List.lookup_cons, hx] at h'
        cases h'
        exact ⟨_, rfl, .inl rfl⟩
    | false =>
      simp only [List.lookup_cons, hx]
      by_cases hc : (k₀ == NameKind.free && sc.kind == .function && sc.names.lookup n == some .cell) = true
      · rw [if_pos hc] at h'
        simp only [List.lookup_cons, hx] at h'
        exact ih h'
      · rw [if_neg hc] at h'
        simp only [List.lookup_cons, hx] at h'
        exact ih h'
/-- the names of a comprehension's block: its own (with their places in N), or captured -/
structure BlkOk (N : List Str) (sc scope : Scope) (own : List (Str × Nat)) : Prop where
  kind : scope.kind = .function
  uniq : ∀ y ∈ scope.names, scope.names.lookup y.1 = some y.2
  ix : ∀ p ∈ own, N[p.2]? = some p.1
  free : ∀ y ∈ scope.names, y.2 = .free → sc.names.lookup y.1 = some .cell ∨ sc.names.lookup y.1 = some .free
  own : ∀ y ∈ scope.names, y.2 = .local ∨ y.2 = .cell → y.1 ∈ own.map (·.1) ∨ y.1 ∉ N
/-- the slots of the block's own names forgotten -/
def wipe (σ : St) : List Nat → St
  | [] => σ
  | v :: vs => (wipe σ vs).set v none
theorem wipe_length (σ : St) : ∀ vs : List Nat, (wipe σ vs).length = σ.length
  | [] => rfl
  | v :: vs => by unfold wipe; rw [List.length_set, wipe_length σ vs]
theorem wipe_some {σ : St} {i : Nat} {x : V} : ∀ {vs : List Nat}, (wipe σ vs)[i]? = some (some x) → σ[i]? = some (some x) ∧ i ∉ vs
  | [], h => ⟨h, by simp⟩
  | v :: vs, h => by
    unfold wipe at h
    by_cases hi : v = i
    · subst hi
      by_cases hv : v < (wipe σ vs).length
      · rw [List.getElem?_set_self hv] at h; cases h
      · rw [List.getElem?_eq_none (by simpa using hv)] at h; cases h
    · rw [List.getElem?_set_ne hi] at h
      obtain ⟨h1, h2⟩ := wipe_some h
      exact ⟨h1, by simp only [List.mem_cons, not_or]; exact ⟨fun e => hi e.symm, h2⟩⟩

/-- the context of a block that starts at s, its iterator's objects at fp -/
abbrev Cx.blk (X : Cx) (s : Shared) (H : Hp) (scope : Scope) (cenv : Env) (fp : List Addr) : Cx := { X with s_0 := s, H_0 := H, env := cenv, outer := X.stack, ex := fp, fn := fun x => scope.names.lookup x == some .cell, pn := [], xe := fun _ _ => False }
section
variable {X : Cx} {pins : List (Addr × Obj)} {σ : St} {H : Hp} {s : Shared}
theorem block_start {scope : Scope} {own : List (Str × Nat)} {fp : List Addr} (I : Inv X pins σ H s) (ok : BlkOk X.N X.env.scope scope own) (hN : X.N.Nodup) (hfp : ∀ b ∈ fp, FpOk X pins H b ∧ b < s.heap.objs.size) :
    Inv (X.blk s H scope (compEnvC scope (cellsFrom (s.heap.objs.size + 1) scope.names (cloFrom X.env.cells scope.names [])) s.heap.objs.size X.env) fp) [] (wipe σ (own.map (·.2))) H { s with heap := pushCells (s.heap.push { cls := .type "dict", data := .dict #[] }) scope.names } := by
  have hfree : ∀ y ∈ scope.names, y.2 = .free → ∃ c, X.env.cells.lookup y.1 = some c := fun y hy e => by
    rcases ok.free y hy e with k | k
    · exact I.ok.has _ (.inl k)
    · exact I.ok.has _ (.inr k)
  generalize hcenv : compEnvC scope (cellsFrom (s.heap.objs.size + 1) scope.names (cloFrom X.env.cells scope.names [])) s.heap.objs.size X.env = cenv
  have kp : ∀ b o, s.heap.get? b = some o → (pushCells (s.heap.push { cls := .type "dict", data := .dict #[] }) scope.names).get? b = some o := fun b o e => pushCells_keeps _ _ _ _ (Heap.get?_push_of_some _ e)
  have hL : cenv.locals = s.heap.objs.size := by rw [← hcenv]; rfl
  have hcl : cenv.cells = cellsFrom (s.heap.objs.size + 1) scope.names (cloFrom X.env.cells scope.names []) := by rw [← hcenv]; rfl
  have hsc : cenv.scope = relS scope X.env.scope := by rw [← hcenv]; rfl
  rw [← Heap.size_push s.heap { cls := .type "dict", data := .dict #[] }] at hcl
  have cm : ∀ {y c}, (y, c) ∈ cloFrom X.env.cells scope.names [] → X.env.cells.lookup y = some c ∧ c < s.heap.objs.size := fun {y c} hm => by
    rcases cloFrom_mem hm with hm | ⟨h1, rfl⟩
    · cases hm
    · obtain ⟨c, hc⟩ := hfree _ h1 rfl
      rw [hc]
      obtain ⟨w, z⟩ := I.cell _ _ hc
      exact ⟨rfl, z.lt⟩
  have mem : ∀ {y c}, cenv.cells.lookup y = some c → (X.env.cells.lookup y = some c ∧ c < s.heap.objs.size) ∨ (s.heap.objs.size + 1 ≤ c ∧ CellAt (pushCells (s.heap.push { cls := .type "dict", data := .dict #[] }) scope.names) c none) := fun {y c} e => by
    rw [hcl] at e
    rcases cells_mem (PySem.mem_of_lookup e) with hm | ⟨_, h2, h3⟩
    · exact .inl (cm hm)
    · rw [Heap.size_push] at h2; exact .inr ⟨h2, h3⟩
  have look : ∀ {y}, scope.names.lookup y = some .free → ∃ c, cenv.cells.lookup y = some c ∧ X.env.cells.lookup y = some c := fun {y} hl => by
    have hy : (y, NameKind.free) ∈ scope.names := PySem.mem_of_lookup hl
    obtain ⟨c', e'⟩ := mem_lookup (cells_acc (names := scope.names) (n := (s.heap.push { cls := .type "dict", data := .dict #[] }).objs.size) (cloFrom_has (cells := X.env.cells) (acc := []) hy))
    rw [← hcl] at e'
    refine ⟨c', e', ?_⟩
    rw [hcl] at e'
    rcases cells_mem (PySem.mem_of_lookup e') with hm | ⟨h1, _, _⟩
    · exact (cm hm).1
    · have := ok.uniq _ h1
      rw [hl] at this; cases this
  have okB : (X.blk s H scope cenv fp).Ok := by
    refine ⟨I.ok.mod, by show cenv.scope.kind = _; rw [hsc]; exact ok.kind, by show cenv.globals = _; rw [← hcenv]; exact I.ok.glob, by show cenv.builtins = _; rw [← hcenv]; exact I.ok.blt, by show s.heap.objs.size ≤ cenv.locals; rw [hL]; exact Nat.le_refl _,
      fun y z c e1 e2 => ?_, fun y hy => ?_, fun y c z e => ?_, I.ok.hd, I.ok.frames, .inl rfl, fun b hb => ⟨?_, fun y c e z => ?_⟩, I.bs, Nat.le_trans I.ok.bsz I.sz, fun b o e hb => ?_, fun b hb z => ?_, I.stack, I.stkFree, I.ok.tb.un I.base⟩
    · have e1 : cenv.cells.lookup y = some c := e1
      have e2 : cenv.cells.lookup z = some c := e2
      rw [hcl] at e1 e2
      refine cells_inj (fun p hp => ?_) (fun y z c a b => I.ok.inj y z c (cm a).1 (cm b).1) (PySem.mem_of_lookup e1) (PySem.mem_of_lookup e2)
      rw [Heap.size_push]
      exact Nat.lt_succ_of_lt (cm (y := p.1) (c := p.2) hp).2
    · show ∃ c, cenv.cells.lookup y = some c
      have key : ∀ k, cenv.kindOf y = some k → (k = .cell ∨ k = .free) → ∃ c, cenv.cells.lookup y = some c := fun k hk hk' => by
        unfold Env.kindOf at hk
        rw [hsc] at hk
        obtain ⟨k', e, r⟩ := lookup_relS hk
        have : k' = .cell ∨ k' = .free := by
          rcases r with rfl | ⟨rfl, _⟩
          · exact hk'
          · exact .inr rfl
        rcases this with rfl | rfl
        · obtain ⟨c, hm⟩ := cells_has (n := (s.heap.push { cls := .type "dict", data := .dict #[] }).objs.size) (acc := cloFrom X.env.cells scope.names []) (PySem.mem_of_lookup e)
          obtain ⟨c', e'⟩ := mem_lookup hm
          exact ⟨c', by rw [hcl]; exact e'⟩
        · obtain ⟨c, h1, _⟩ := look e
          exact ⟨c, h1⟩
      rcases hy with hy | hy
      · exact key _ hy (.inl rfl)
      · exact key _ hy (.inr rfl)
    · have z : (scope.names.lookup y == some NameKind.cell) = true := z
      have z : scope.names.lookup y = some .cell := by simpa using z
      have e : cenv.cells.lookup y = some c := e
      rw [hcl] at e
      rcases cells_mem (PySem.mem_of_lookup e) with hm | ⟨_, h2, _⟩
      · rcases cloFrom_mem hm with hm | ⟨h1, _⟩
        · cases hm
        · have q := ok.uniq _ h1
          rw [z] at q; cases q
      · rw [Heap.size_push] at h2
        exact Nat.le_of_succ_le h2
    · show b ≠ cenv.locals
      rw [hL]; exact Nat.ne_of_lt (hfp b hb).2
    · have e : cenv.cells.lookup y = some c := e
      rcases mem e with ⟨h1, _⟩ | ⟨h1, _⟩
      · exact (hfp b hb).1.2.2.2.2.1 y c h1 z
      · have h2 : s.heap.objs.size + 1 ≤ b := by rw [← z]; exact h1
        exact absurd (Nat.lt_of_lt_of_le (hfp b hb).2 (Nat.le_of_succ_le h2)) (Nat.lt_irrefl _)
    · rcases (hfp b hb).1.2.2.2.1 with z | z
      · exact I.ok.noex b o e z
      · exact absurd (Nat.lt_of_lt_of_le (Heap.lt_size e) (Nat.le_trans I.ok.bsz z)) (Nat.lt_irrefl _)
    · rcases List.mem_cons.mp (I.stkSub b z) with z | z
      · exact (hfp b hb).1.2.1 z
      · exact (hfp b hb).1.2.2.1 z
  refine ⟨okB, rfl, I.bareS, Un.kept kp, ⟨fun _ => none, ?_, fun i y av e1 e2 e3 => ?_⟩, fun y c e => ?_, ?_, fun y c e => ?_, fun p hp => ?_, I.hok.kept kp, by rw [wipe_length]; exact I.len⟩
  · show Heap.Ns _ cenv.locals _
    rw [hL]
    exact Heap.Ns.keeps (Heap.Ns.new ..) fun b o e => pushCells_keeps _ _ _ _ e
  · obtain ⟨e2, hne⟩ := wipe_some e2
    have hfr : scope.names.lookup y = some .free ∧ (cenv.kindOf y = some .cell ∨ cenv.kindOf y = some .free) := by
      have key : ∀ k, cenv.scope.names.lookup y = some k → k = .local ∨ k = .cell ∨ k = .free → scope.names.lookup y = some .free ∧ (cenv.kindOf y = some .cell ∨ cenv.kindOf y = some .free) := fun k hk hk' => by
        have hk0 := hk
        rw [hsc] at hk
        obtain ⟨k', e, r⟩ := lookup_relS hk
        have no : ¬ (k' = .local ∨ k' = .cell) := fun hh => by
          rcases ok.own _ (PySem.mem_of_lookup e) hh with e' | e'
          · obtain ⟨p, hp, hpy⟩ := List.mem_map.mp e'
            have e3 := ok.ix p hp
            have : p.1 = y := hpy
            rw [this] at e3
            exact hne (List.mem_map.mpr ⟨p, hp, nodup_ix hN e3 e1⟩)
          · exact e' (List.mem_of_getElem? e1)
        rcases r with rfl | ⟨rfl, rfl⟩
        · rcases hk' with rfl | rfl | rfl
          · exact absurd (.inl rfl) no
          · exact absurd (.inr rfl) no
          · exact ⟨e, .inr hk0⟩
        · exact ⟨e, .inl hk0⟩
      have e3 : Vis cenv.scope y := e3
      rcases e3 with e3 | e3 | e3
      · exact key _ e3 (.inl rfl)
      · exact key _ e3 (.inr (.inl rfl))
      · exact key _ e3 (.inr (.inr rfl))
    obtain ⟨m, hn, hl⟩ := I.loc
    have hvis : Vis X.env.scope y := (ok.free _ (PySem.mem_of_lookup hfr.1) rfl).elim (fun k => .inr (.inl k)) (fun k => .inr (.inr k))
    obtain ⟨w, r, q⟩ := hl i y av e1 e2 hvis
    refine ⟨w, r, .inr ⟨hfr.2, ?_⟩⟩
    obtain ⟨c, h1, h2⟩ := look hfr.1
    rcases q with ⟨k, _⟩ | ⟨_, c', e', z⟩
    · have k : X.env.scope.names.lookup y = some .local := k
      rcases ok.free _ (PySem.mem_of_lookup hfr.1) rfl with k' | k' <;> rw [show X.env.scope.names.lookup y = _ from k'] at k <;> cases k
    · rw [h2] at e'; cases e'
      exact ⟨c, h1, z.keeps kp⟩
  · have e : cenv.cells.lookup y = some c := e
    rcases mem e with ⟨h1, _⟩ | ⟨_, z⟩
    · obtain ⟨w, z⟩ := I.cell y c h1
      exact ⟨w, z.keeps kp⟩
    · exact ⟨_, z⟩
  · show H cenv.locals = none
    rw [hL]; exact I.hok.fresh (Nat.le_refl _)
  · have e : cenv.cells.lookup y = some c := e
    rcases mem e with ⟨h1, _⟩ | ⟨h1, _⟩
    · exact I.freeC y c h1
    · exact I.hok.fresh (Nat.le_of_succ_le h1)
  · exact absurd (show p ∈ ([] : List (Addr × Obj)) ++ [] from hp) (by simp)

/-- an item appended to a tracked list -/
theorem app_ok {E : Value → Shared → Prop} {D : Addr} {xs : List V} {y : V} {v : Value} {Q : Value → Shared → Prop} (I : Inv X pins σ H s) (hD : H D = some (.lst xs)) (hz : xs.length < sizeLine) (r : RelV y v)
    (h : ∀ s', Inv X pins σ (upd H D (.lst (xs ++ [y]))) s' → Q .none s') : wpAny (model X.prog X.w) X.A (call (.builtin "list.append") [.ref D, v]) Q E s := by
  obtain ⟨hz', its, n, ri, e⟩ := I.hok D _ hD
  have hl := ri.length
  refine append_at (hsz := by rw [List.size_toArray]; omega) e fun h' sb ho' => ?_
  refine h { s with heap := h' } (I.write (t' := s.toks) (by rw [hD]; trivial) (.inl rfl) (fun b u hb q => (sb.2 b hb).trans q) ⟨_, ho'⟩ ⟨by rw [List.length_append]; exact hz, its ++ [v], n + 1, ri.append (.cons r .nil), ?_⟩)
  rw [ho']
  simp

/-- a clause's tests -/
def PTs (X : Cx) (ifs : List Expr) (t : TT) : Prop :=
  ∀ (pins : List (Addr × Obj)) (s : Shared) (σ : St) (H : Hp) (Q : Bool → Hp → Prop), Inv X pins σ H s → t σ H Q →
    wpAny (model X.prog X.w) X.A (forIn ifs true fun c r => if r = true then do let ok ← isTrue c X.env (eval c X.env); pure (ForInStep.yield ok) else pure (ForInStep.yield r)) (TP X pins σ Q) X.xe s
def tYes : TT := fun _ H Q => Q true H
theorem pts_nil : PTs X [] tYes := fun _ _ _ H _ I h => wpAny_tests_nil ⟨H, I, h⟩
theorem pts_one {c : Expr} {t : TT} (h : PT X c t) : PTs X [c] t := fun pins s σ H Q I hw => wpAny_tests_one (h pins s σ H Q I hw)
end

theorem thnF {α : Type} {t : Sem α} {Q Q' : α → Shared → Prop} {M : Model} {A : Around} {E : Value → Shared → Prop} {s : Shared} (h : wpAny M A t Q (fun _ _ => False) s) (hQ : ∀ a s, Q a s → Q' a s) : wpAny M A t Q' E s := wpAny_mono h hQ fun _ _ z => False.elim z

/-- the loop of a list comprehension's block, the target of any form (codeAny_compLoop_tests asks a target that no tuple goes to; statement and proof follow it, PyProof/CompMap.lean:41-61, with the step letOwnedTupleGo kept) -/
theorem compLoop_any {prog : Program} {w : World} {A : Around} {R : Result → Shared → Prop} {s : Shared} {elt target iter : Expr} {ifs : List Expr} {scope : Scope} {pos : Pos} {it acc : Value} {env : Env} (I : Nat → Shared → Prop)
    (turn : ∀ n s, I n s → wpAny (model prog w) A (pyNext it) (fun r s₁ => match r with
      | none => R (.ok .next) s₁
      | some v => wpAny (model prog w) A (letOwnedTupleGo target it v) (fun _ s₁' => wpAny (model prog w) A (assign target env v) (fun _ s₂ =>
          wpAny (model prog w) A (forIn ifs true fun c r => if r = true then do let ok ← isTrue c env (eval c env); pure (ForInStep.yield ok) else pure (ForInStep.yield r)) (fun ok s₃ =>
            if ok = true then wpAny (model prog w) A (eval elt env) (fun x s₄ =>
              wpAny (model prog w) A (call (.builtin "list.append") [acc, x]) (fun _ s₅ => ∃ m, m < n ∧ I m s₅) (notedBy (model prog w) A env fun e s' => R (.error e) s') s₄) (notedBy (model prog w) A env fun e s' => R (.error e) s') s₃
            else ∃ m, m < n ∧ I m s₃) (notedBy (model prog w) A env fun e s' => R (.error e) s') s₂) (notedBy (model prog w) A env fun e s' => R (.error e) s') s₁') (notedBy (model prog w) A env fun e s' => R (.error e) s') s₁) (notedBy (model prog w) A env fun e s' => R (.error e) s') s)
    (n : Nat) (h : I n s) :
    codeAny (model prog w) A (.compLoop (.ListComp elt [⟨target, iter, ifs, 0⟩] scope pos) 0 it acc env) R s := by
  refine codeAny_loop rfl I (fun n s hI => ?_) n h
  show wpAny _ A ((compTurn (.ListComp elt [⟨target, iter, ifs, 0⟩] scope pos) 0 it acc env).onRaise (fun x => do noteFrame x env; theTreesLotGoes x)) _ _ s
  refine wpAny_noted ?_
  rw [compTurn_list]
  refine wpAny_bind (wpAny_standAt (wpAny_bind (wpAny_mono (turn n s hI) (fun r s₁ h₁ => ?_) fun _ _ h' => h')))
  cases r with
  | none => exact wpAny_pure h₁
  | some v =>
    refine wpAny_bind (wpAny_mono h₁ (fun _ s₁' h₁' => ?_) fun _ _ h' => h')
    refine wpAny_bind (wpAny_mono h₁' (fun _ s₂ h₂ => wpAny_bind (wpAny_mono h₂ (fun ok s₃ h₃ => ?_) fun _ _ h' => h')) fun _ _ h' => h')
    cases ok with
    | false => exact wpAny_pure ⟨rfl, h₃⟩
    | true =>
      exact wpAny_bind (wpAny_bind (wpAny_mono h₃ (fun x s₄ h₄ => wpAny_bind (wpAny_mono h₄ (fun _ s₅ h₅ => wpAny_pure (wpAny_pure ⟨rfl, h₅⟩)) fun _ _ h' => h')) fun _ _ h' => h'))

section
variable {X : Cx}
/-- [elt for target in iter if ..]: D the new list; W by the turn and a measure, Nx what a turn is to reach -/
def tLc (wi : TI) (g : TG) (tt : TT) (te : TE) (vs : List Nat) : TE := fun σ H Q => wi σ H fun J H1 => ∀ D, H1 D = none → ∃ W : Nat → Nat → Hp → Prop, (∃ m, W 0 m (upd H1 D (.lst []))) ∧ ∀ i m H, W i m H →
  (J.stop i H ∧ Q (.ref D) H) ∨ (J.go i H ∧ ∃ Nx : Hp → Prop, (∀ H', Nx H' → ∃ m', m' < m ∧ W (i + 1) m' H') ∧ ∀ x H', J.yld i H x H' → g x (wipe σ vs) H' fun σ2 H2 => wipe σ2 vs = wipe σ vs ∧ tt σ2 H2 fun b H3 =>
    if b = true then te σ2 H3 fun y H4 => ∃ acc, H4 D = some (.lst acc) ∧ acc.length < sizeLine ∧ Nx (upd H4 D (.lst (acc ++ [y]))) else Nx H3)
theorem lc_core {pins : List (Addr × Obj)} {s : Shared} {σ : St} {H : Hp} {Q : VK} {elt tg iter : Expr} {ifs : List Expr} {scope : Scope} {own : List (Str × Nat)} {pos pos' : Pos} {wi : TI} {g : TG} {tt : TT} {te : TE} {use : Option (Value → Sem Unit)} {Qf : Value → Shared → Prop}
    (hc : X.calm = true) (hN : X.N.Nodup) (I : Inv X pins σ H s) (hi : PI X tg iter wi) (ok : BlkOk X.N X.env.scope scope own)
    (hg : ∀ (s : Shared) (H : Hp) (C : Addr) (cl : List (Str × Addr)) (fp : List Addr), PG (X.blk s H scope (compEnvC scope cl C X.env) fp) tg g) (ht : ∀ (s : Shared) (H : Hp) (C : Addr) (cl : List (Str × Addr)) (fp : List Addr), PTs (X.blk s H scope (compEnvC scope cl C X.env) fp) ifs tt)
    (he : ∀ (s : Shared) (H : Hp) (C : Addr) (cl : List (Str × Addr)) (fp : List Addr), PE (X.blk s H scope (compEnvC scope cl C X.env) fp) elt te) (hs : ∀ x, foldedSetIterable iter X.env x = pure x)
    (h : tLc wi g tt te (own.map (·.2)) σ H Q)
    (hRR : ∀ D C s' m H', Inv X pins σ H' s' → Q (.ref D) H' → s'.heap.Ns C m → FpOk X pins H' C → compPost (model X.prog X.w) X.A X.xe use Qf (.ref D) C (.ok .next) s') :
    wpAny (model X.prog X.w) X.A (comprehension (.ListComp elt [⟨tg, iter, ifs, 0⟩] scope pos) scope X.env pos' (newList []) false (eval iter X.env) use) Qf X.xe s := by
  have hfree : ∀ y ∈ scope.names, y.2 = .free → ∃ c, X.env.cells.lookup y.1 = some c := fun y hy e => by
    rcases ok.free y hy e with k | k
    · exact I.ok.has _ (.inl k)
    · exact I.ok.has _ (.inr k)
  refine wpAny_comprehension_free (use := use) rfl hs (closure_ok hfree) ok.kind (fun y hy e => by rw [ok.uniq y hy, e])
    (thn (hi pins s σ H _ I h) fun xv s1 hx => thn hx fun itv s2 h2 => ?_)
  obtain ⟨it, fp, tn, J, H2, e, I2, T, st2, f2, q⟩ := h2
  subst e
  refine wpAny_newObj_type (newEnv_comp ?_) (by show 0 ≤ sizeLine; decide)
  generalize hD : s2.heap.objs.size = D
  have hDn : H2 D = none := I2.hok.fresh (Nat.le_of_eq hD)
  obtain ⟨W, ⟨m0, w0⟩, turn⟩ := q D hDn
  -- the new list
  generalize hs3 : ({ s2 with heap := s2.heap.push { cls := .type "list", data := .seq ([] : List Value).toArray } } : Shared) = s3
  have I3 : Inv X pins σ (upd H2 D (.lst [])) s3 := by
    rw [← hs3]
    refine I2.laid (t' := s2.toks) (fun b o e => Heap.get?_push_of_some _ e) (Nat.le_of_eq hD) ⟨Nat.zero_le _, [], 0, .nil, ?_⟩
    rw [← hD]
    exact Heap.get?_push_size _ rfl
  have h3 : s3.heap = s2.heap.push { cls := .type "list", data := .seq ([] : List Value).toArray } := by rw [← hs3]
  have sz : ∀ b ∈ fp, b < s2.heap.objs.size := fun b hb => by
    obtain ⟨o, e, _⟩ := T.obj _ _ st2 b hb
    exact Heap.lt_size e
  have f3 : ∀ b ∈ fp, FpOk X pins (upd H2 D (.lst [])) b ∧ b < s3.heap.objs.size := fun b hb => by
    have hlt := sz b hb
    refine ⟨⟨?_, (f2 b hb).2⟩, by rw [h3, Heap.size_push]; exact Nat.lt_succ_of_lt hlt⟩
    rw [upd_ne (by rw [← hD]; exact Nat.ne_of_lt hlt)]
    exact (f2 b hb).1
  have st3 : tn 0 s3.heap := T.keep _ _ _ st2 fun b _ o e => by rw [h3]; exact Heap.get?_push_of_some _ e
  have I4 := block_start I3 ok hN f3
  have pg := hg s3 (upd H2 D (.lst [])) s3.heap.objs.size (cellsFrom (s3.heap.objs.size + 1) scope.names (cloFrom X.env.cells scope.names [])) fp
  have pt := ht s3 (upd H2 D (.lst [])) s3.heap.objs.size (cellsFrom (s3.heap.objs.size + 1) scope.names (cloFrom X.env.cells scope.names [])) fp
  have pe := he s3 (upd H2 D (.lst [])) s3.heap.objs.size (cellsFrom (s3.heap.objs.size + 1) scope.names (cloFrom X.env.cells scope.names [])) fp
  show codeAny _ _ (.compStart (.ListComp elt [⟨tg, iter, ifs, 0⟩] scope pos) 0 (.ref it) (.ref D) (compEnvC scope (cellsFrom (s3.heap.objs.size + 1) scope.names (cloFrom X.env.cells scope.names [])) s3.heap.objs.size X.env)) (compPost (model X.prog X.w) X.A X.xe use Qf (.ref D) s3.heap.objs.size) { s3 with heap := pushCells (s3.heap.push { cls := .type "dict", data := .dict #[] }) scope.names }
  have nfp : ∀ b ∈ fp, (upd H2 D (.lst [])) b = none := fun b hb => (f3 b hb).1.1
  generalize hce : compEnvC scope (cellsFrom (s3.heap.objs.size + 1) scope.names (cloFrom X.env.cells scope.names [])) s3.heap.objs.size X.env = ce at I4 pg pt pe ⊢
  have cL : ce.locals = s3.heap.objs.size := by subst hce; rfl
  generalize hH3 : upd H2 D (.lst []) = H3 at I3 I4 pg pt pe w0 nfp f3
  generalize hs4 : ({ s3 with heap := pushCells (s3.heap.push { cls := .type "dict", data := .dict #[] }) scope.names } : Shared) = s4 at I4 ⊢
  have st4 : tn 0 s4.heap := T.keep _ _ _ st3 fun b _ o e => by rw [← hs4]; exact pushCells_keeps _ _ _ _ (Heap.get?_push_of_some _ e)
  have stat : ∀ {σ' : St} {H' : Hp} {s' : Shared}, Inv (X.blk s3 H3 scope ce fp) [] σ' H' s' → (∀ b ∈ fp, H' b = none) → ∀ b ∈ fp, FpOk (X.blk s3 H3 scope ce fp) [] H' b := fun {σ' H' s'} I' hn b hb =>
    ⟨hn b hb, (I'.ok.exf b hb).1, I'.ok.exfs b hb, .inl hb, fun x c e => (I'.ok.exf b hb).2 x c e, fun p hp => absurd (show p ∈ ([] : List (Addr × Obj)) ++ [] from hp) (by simp)⟩
  have loop : codeAny (model X.prog X.w) X.A (.compLoop (.ListComp elt [⟨tg, iter, ifs, 0⟩] scope pos) 0 (.ref it) (.ref D) ce) (compPost (model X.prog X.w) X.A X.xe use Qf (.ref D) s3.heap.objs.size) s4 := by
    refine compLoop_any (fun n s' => ∃ i H', Inv (X.blk s3 H3 scope ce fp) [] (wipe σ (own.map (·.2))) H' s' ∧ tn i s'.heap ∧ (∀ b ∈ fp, H' b = none) ∧ W i n H') ?_ m0 ⟨0, H3, I4, st4, nfp, w0⟩
    rintro n s5 ⟨i, H5, I5, st5, n5, w5⟩
    rcases turn i n H5 w5 with ⟨stop, qq⟩ | ⟨go, Nx, hNx, step⟩
    · have td := T.done (X.blk s3 H3 scope ce fp) rfl rfl rfl hc i [] s5 _ H5 (fun _ _ => False) I5 (stat I5 n5) st5 stop
      refine thnF td fun r s6 ⟨hr, I6⟩ => ?_
      subst hr
      -- back in the def's context
      have I7 : Inv X pins σ H5 s6 := I3.call' (ch := fp) I6.os I6.base I6.hok I6.bare fun b hb => ⟨(f3 b hb).1.2.2.2.1, (f3 b hb).1.2.1, (f3 b hb).1.2.2.2.2.1, (f3 b hb).1.2.2.2.2.2⟩
      have nC : H5 s3.heap.objs.size = none := by
        have z : H5 ce.locals = none := I6.free
        rw [cL] at z
        exact z
      obtain ⟨m, hn, _⟩ := I6.loc
      have hn : s6.heap.Ns ce.locals m := hn
      rw [cL] at hn
      exact hRR D s3.heap.objs.size s6 m H5 I7 qq hn (I3.fpOk (Nat.le_refl _) nC)
    · have ti := T.item (X.blk s3 H3 scope ce fp) rfl rfl rfl hc i [] s5 _ H5 (fun _ _ => False) I5 (stat I5 n5) st5 go
      refine thnF ti fun r s6 ⟨u, hr, h6⟩ => ?_
      subst hr
      refine thnF h6 fun _ s7 ⟨x, H7, I7, r7, y7, st7, n7⟩ => ?_
      have I7' := I7.pinned (stat I7 n7) (T.obj _ _ st7)
      refine thnF (pg _ s7 _ H7 x u _ I7' r7 (step x H7 y7)) fun _ s8 ⟨σ8, H8, I8, hw8, q8⟩ => ?_
      refine thnF (pt _ s8 σ8 H8 _ I8 q8) fun b s9 ⟨H9, I9, q9⟩ => ?_
      -- the turn's end
      have fin : ∀ {s' : Shared} {H' : Hp}, Inv (X.blk s3 H3 scope ce fp) ([] ++ pinsAt fp s7.heap) σ8 H' s' → Nx H' → ∃ m, m < n ∧ ∃ i H', Inv (X.blk s3 H3 scope ce fp) [] (wipe σ (own.map (·.2))) H' s' ∧ tn i s'.heap ∧ (∀ b ∈ fp, H' b = none) ∧ W i m H' := fun {s' H'} I' nx => by
        obtain ⟨m', hm, w'⟩ := hNx H' nx
        have pin' : ∀ b ∈ fp, ∀ o, s7.heap.get? b = some o → s'.heap.get? b = some o ∧ H' b = none := fun b hb o e =>
          let z := I'.pin (b, o) (List.mem_append_right _ (List.mem_append_right _ (mem_pinsAt hb e)))
          ⟨z.1, z.2.1⟩
        have hl : (wipe σ (own.map (·.2))).length = σ8.length := by rw [← hw8, wipe_length]
        refine ⟨m', hm, i + 1, H', (I'.unpinned (pins := [])).weak hl (fun j v e => ?_), T.keep _ _ _ st7 fun b hb o e => (pin' b hb o e).1, fun b hb => ?_, w'⟩
        · rw [← hw8] at e
          exact (wipe_some e).1
        · obtain ⟨o, e, _⟩ := T.obj _ _ st7 b hb
          exact (pin' b hb o e).2
      cases b with
      | false =>
        simp only [Bool.false_eq_true, if_false] at q9 ⊢
        exact fin I9 q9
      | true =>
        simp only [if_true] at q9 ⊢
        refine thnF (pe _ s9 σ8 H9 _ I9 q9) fun z s10 ⟨yv, H10, I10, r10, acc, hD10, hz10, nx⟩ => ?_
        exact app_ok (X := X.blk s3 H3 scope ce fp) I10 hD10 hz10 r10 fun s11 I11 => fin I11 nx
  exact codeAny_compStart_list loop (T.self X.A 0 _ _ _ st4 loop)
/-- as a value -/
theorem pe_lc {elt tg iter : Expr} {ifs : List Expr} {scope : Scope} {own : List (Str × Nat)} {pos : Pos} {wi : TI} {g : TG} {tt : TT} {te : TE} (hc : X.calm = true) (hN : X.N.Nodup) (hi : PI X tg iter wi) (ok : BlkOk X.N X.env.scope scope own)
    (hg : ∀ (s : Shared) (H : Hp) (C : Addr) (cl : List (Str × Addr)) (fp : List Addr), PG (X.blk s H scope (compEnvC scope cl C X.env) fp) tg g) (ht : ∀ (s : Shared) (H : Hp) (C : Addr) (cl : List (Str × Addr)) (fp : List Addr), PTs (X.blk s H scope (compEnvC scope cl C X.env) fp) ifs tt)
    (he : ∀ (s : Shared) (H : Hp) (C : Addr) (cl : List (Str × Addr)) (fp : List Addr), PE (X.blk s H scope (compEnvC scope cl C X.env) fp) elt te) (hs : ∀ x, foldedSetIterable iter X.env x = pure x := by intro _; rfl) :
    PE X (.ListComp elt [⟨tg, iter, ifs, 0⟩] scope pos) (tLc wi g tt te (own.map (·.2))) := by
  intro pins s σ H Q I h
  rw [eval_ListComp]
  refine lc_core hc hN I hi ok hg ht he hs h fun D C s' m H' I' q hn f => ⟨m, hn, fun h'' sb => ?_⟩
  obtain ⟨f0, f1, f2, f3, f4, f5⟩ := f
  exact ⟨.ref D, H', I'.turned (t' := s'.toks) (fun b o hb e => (sb.2 b hb).trans e) f0 f1 f3 f4 f5, rfl, q⟩
/-- name = [..] on one line, the name a local -/
theorem ps_setLc {i : Nat} {y : Str} {py : Pos} {elt tg iter : Expr} {ifs : List Expr} {scope : Scope} {own : List (Str × Nat)} {pos spos : Pos} {wi : TI} {g : TG} {tt : TT} {te : TE} (hc : X.calm = true) (hN : X.N.Nodup) (hy : X.N[i]? = some y) (hyl : X.env.scope.names.lookup y = some .local)
    (hsw : swapsWith (.ListComp elt [⟨tg, iter, ifs, 0⟩] scope pos) (some (.Name y py)) spos.line X.env = pure true) (hi : PI X tg iter wi) (ok : BlkOk X.N X.env.scope scope own)
    (hg : ∀ (s : Shared) (H : Hp) (C : Addr) (cl : List (Str × Addr)) (fp : List Addr), PG (X.blk s H scope (compEnvC scope cl C X.env) fp) tg g) (ht : ∀ (s : Shared) (H : Hp) (C : Addr) (cl : List (Str × Addr)) (fp : List Addr), PTs (X.blk s H scope (compEnvC scope cl C X.env) fp) ifs tt)
    (he : ∀ (s : Shared) (H : Hp) (C : Addr) (cl : List (Str × Addr)) (fp : List Addr), PE (X.blk s H scope (compEnvC scope cl C X.env) fp) elt te) (hs : ∀ x, foldedSetIterable iter X.env x = pure x := by intro _; rfl) :
    PS X (.Assign [.Name y py] (.ListComp elt [⟨tg, iter, ifs, 0⟩] scope pos) spos) (tAsg (tLc wi g tt te (own.map (·.2))) (gName i)) := by
  intro pins s σ H D I h
  rw [exec_Assign_Name_used _ _ _ _ hsw]
  refine wpAny_bind (wpAny_standAt (wpAny_bind ?_))
  show wpAny _ X.A (do let _ ← comprehension (.ListComp elt [⟨tg, iter, ifs, 0⟩] scope pos) scope X.env (firstIterPos [⟨tg, iter, ifs, 0⟩] pos) (newList []) false (eval iter X.env) (some (assign (.Name y py) X.env))) _ _ s
  have h : tLc wi g tt te (own.map (·.2)) σ H (fun x H1 => gName i x σ H1 D.nx) := h
  refine wpAny_bind (thn (lc_core (Qf := fun _ s' => SP X pins D .next s') hc hN I hi ok hg ht he hs h fun L C s' m H' I' q hn f => ?_) fun _ s' hq => wpAny_pure (wpAny_pure hq))
  show wpAny _ _ (assign (.Name y py) X.env (.ref L)) _ _ _
  refine wpAny_assign_Name (store_ok2 (v := V.ref L) I' hN hy (.inl hyl) rfl (fun s2 I2 ⟨a, sb, ha⟩ => ?_) (.inr hyl))
  obtain ⟨f0, f1, f2, f3, f4, f5⟩ := f
  have haC : C ≠ a := by
    rcases ha with z | z
    · rw [z]; exact f1
    · exact fun e => f4 y a z e.symm
  refine ⟨m, hn.sameBut sb haC, fun h3 sb3 => ?_⟩
  exact ⟨_, H', I2.turned (t' := s2.toks) (fun b o hb e => (sb3.2 b hb).trans e) f0 f1 f3 f4 f5, q⟩
theorem sw_true {elt : Expr} {gs : List Comprehension} {scope : Scope} {pos py : Pos} {y : Str} {l : Nat} {env : Env} (hk : env.scope.kind = .function) (hy : env.scope.names.lookup y = some .local) (hl : (py.line == pos.line) = true)
    (ha : (scope.names.any fun (n, k) => n == y && (k == .local || k == .cell)) = false) : swapsWith (.ListComp elt gs scope pos) (some (.Name y py)) l env = pure true := by
  have ky : env.kindOf y = some .local := hy
  have hb : env.blockKind = .function := by unfold Env.blockKind; rw [hk]; rfl
  unfold swapsWith
  simp only [hb, ky, ha, Expr.pos, hl]
  rfl
end

/-- over a range: Pv by the turn and the heap (the new list at D within) -/
theorem lc_range {lo : Int} {n : Nat} {g : TG} {tt : TT} {te : TE} {vs : List Nat} {σ : St} {H1 : Hp} {D : Addr} {Qd : Hp → Prop} (Pv : Nat → Hp → Prop) (h0 : Pv 0 (upd H1 D (.lst [])))
    (hs : ∀ i H, i < n → Pv i H → g (.int (lo + i)) (wipe σ vs) H fun σ2 H2 => wipe σ2 vs = wipe σ vs ∧ tt σ2 H2 fun b H3 =>
      if b = true then te σ2 H3 fun y H4 => ∃ acc, H4 D = some (.lst acc) ∧ acc.length < sizeLine ∧ Pv (i + 1) (upd H4 D (.lst (acc ++ [y]))) else Pv (i + 1) H3) (hd : ∀ H, Pv n H → Qd H) :
    ∃ W : Nat → Nat → Hp → Prop, (∃ m, W 0 m (upd H1 D (.lst []))) ∧ ∀ i m H, W i m H →
      ((Itr lo n).stop i H ∧ Qd H) ∨ ((Itr lo n).go i H ∧ ∃ Nx : Hp → Prop, (∀ H', Nx H' → ∃ m', m' < m ∧ W (i + 1) m' H') ∧ ∀ x H', (Itr lo n).yld i H x H' → g x (wipe σ vs) H' fun σ2 H2 => wipe σ2 vs = wipe σ vs ∧ tt σ2 H2 fun b H3 =>
        if b = true then te σ2 H3 fun y H4 => ∃ acc, H4 D = some (.lst acc) ∧ acc.length < sizeLine ∧ Nx (upd H4 D (.lst (acc ++ [y]))) else Nx H3) := by
  refine ⟨fun i m H => m = n - i ∧ i ≤ n ∧ Pv i H, ⟨n, by simp, Nat.zero_le _, h0⟩, ?_⟩
  rintro i m H ⟨rfl, hi, p⟩
  by_cases hlt : i < n
  · refine .inr ⟨hlt, Pv (i + 1), fun H' p' => ⟨n - (i + 1), by omega, rfl, hlt, p'⟩, fun x H' y => ?_⟩
    obtain ⟨e, y⟩ := y
    subst e y
    exact hs i _ hlt p
  · have e : i = n := by omega
    subst e
    exact .inl ⟨Nat.le_refl _, hd H p⟩
/-- over a list that the block leaves as it is -/
theorem lc_list {K : PySem.W.Frag} {a : Addr} {xs : List V} {g : TG} {tt : TT} {te : TE} {vs : List Nat} {σ : St} {H1 : Hp} {D : Addr} {Qd : Hp → Prop} (Pv : Nat → Hp → Prop) (h0 : Pv 0 (upd H1 D (.lst []))) (hl : ∀ i H, i ≤ xs.length → Pv i H → SqL K H a xs)
    (hs : ∀ i x H, xs[i]? = some x → Pv i H → g x (wipe σ vs) H fun σ2 H2 => wipe σ2 vs = wipe σ vs ∧ tt σ2 H2 fun b H3 =>
      if b = true then te σ2 H3 fun y H4 => ∃ acc, H4 D = some (.lst acc) ∧ acc.length < sizeLine ∧ Pv (i + 1) (upd H4 D (.lst (acc ++ [y]))) else Pv (i + 1) H3) (hd : ∀ H, Pv xs.length H → Qd H) :
    ∃ W : Nat → Nat → Hp → Prop, (∃ m, W 0 m (upd H1 D (.lst []))) ∧ ∀ i m H, W i m H →
      ((Itl K a).stop i H ∧ Qd H) ∨ ((Itl K a).go i H ∧ ∃ Nx : Hp → Prop, (∀ H', Nx H' → ∃ m', m' < m ∧ W (i + 1) m' H') ∧ ∀ x H', (Itl K a).yld i H x H' → g x (wipe σ vs) H' fun σ2 H2 => wipe σ2 vs = wipe σ vs ∧ tt σ2 H2 fun b H3 =>
        if b = true then te σ2 H3 fun y H4 => ∃ acc, H4 D = some (.lst acc) ∧ acc.length < sizeLine ∧ Nx (upd H4 D (.lst (acc ++ [y]))) else Nx H3) := by
  refine ⟨fun i m H => m = xs.length - i ∧ i ≤ xs.length ∧ Pv i H, ⟨xs.length, by simp, Nat.zero_le _, h0⟩, ?_⟩
  rintro i m H ⟨rfl, hi, p⟩
  have q := hl i H hi p
  by_cases hlt : i < xs.length
  · refine .inr ⟨⟨xs, xs[i], q, by simp [hlt]⟩, Pv (i + 1), fun H' p' => ⟨xs.length - (i + 1), by omega, rfl, hlt, p'⟩, fun x H' y => ?_⟩
    obtain ⟨e, y⟩ := y
    subst e
    exact hs i x _ (y xs q) p
  · have e : i = xs.length := by omega
    subst e
    exact .inl ⟨⟨xs, q, Nat.le_refl _⟩, hd H p⟩
def blkC (N : List Str) (sc scope : Scope) (own : List (Str × Nat)) : Bool :=
  (match scope.kind with | .function => true | _ => false) && (scope.names.all fun y => decide (scope.names.lookup y.1 = some y.2)) && (own.all fun p => decide (N[p.2]? = some p.1)) &&
    (scope.names.all fun y => match y.2 with
      | .free => (match sc.names.lookup y.1 with | some .cell => true | some .free => true | _ => false)
      | .local => decide (y.1 ∈ own.map (·.1)) || decide (y.1 ∉ N)
      | .cell => decide (y.1 ∈ own.map (·.1)) || decide (y.1 ∉ N)
      | _ => true)
theorem blkOk_by {N : List Str} {sc scope : Scope} {own : List (Str × Nat)} (h : blkC N sc scope own = true) : BlkOk N sc scope own := by
  unfold blkC at h
  simp only [Bool.and_eq_true, List.all_eq_true, decide_eq_true_eq] at h
  obtain ⟨⟨⟨h1, h2⟩, h3⟩, h4⟩ := h
  refine ⟨?_, h2, h3, fun y hy e => ?_, fun y hy e => ?_⟩
  · split at h1
    · assumption
    · cases h1
  · have q := h4 y hy
    simp only [e] at q
    split at q <;> first | exact .inl (by assumption) | exact .inr (by assumption) | cases q
  · have q := h4 y hy
    rcases e with e | e <;> (simp only [e, Bool.or_eq_true, decide_eq_true_eq] at q; exact q)
end L2

namespace L2
open PySem PySem.Spec PyProof.Rows

section
variable {prog : Program} {w : World} {A : Around} {R : Result → Shared → Prop} {s : Shared} {elt t0 i0 t1 i1 : Expr} {ifs0 ifs1 : List Expr} {scope : Scope} {pos : Pos} {it acc : Value} {env : Env}
end

section
variable {X : Cx}
end
end L2

namespace L2
open PySem PySem.Spec PyProof.Rows

section
variable {κ : Type} [DecidableEq κ]
def valV (kvs : List (κ × V)) (k : κ) : Option V := (kvs.find? fun kv => decide (kv.1 = k)).map (·.2)
/-- in its place, or at the end -/
def putK (kvs : List (κ × V)) (k : κ) (v : V) : List (κ × V) :=
  if (kvs.any fun kv => decide (kv.1 = k)) = true then kvs.map (fun kv => if kv.1 = k then (kv.1, v) else kv) else kvs ++ [(k, v)]
def dropK (kvs : List (κ × V)) (k : κ) : List (κ × V) := kvs.filter fun kv => decide (kv.1 ≠ k)

theorem RelO.getD {o : Option V} {u : Option Value} {d : V} {d' : Value} (r : RelO o u) (rd : RelV d d') : RelV (o.getD d) (u.getD d') := by
  cases o with
  | none => cases u with
    | none => exact rd
    | some _ => exact (show False from r).elim
  | some _ => cases u with
    | none => exact (show False from r).elim
    | some _ => exact r

theorem KV.any {kvs : List (κ × V)} {vs : List (κ × Value)} (r : KV kvs vs) (k : κ) : (kvs.any fun kv => decide (kv.1 = k)) = vs.any fun kv => decide (kv.1 = k) := by
  unfold KV at r
  induction r with
  | nil => rfl
  | cons h t ih => rw [List.any_cons, List.any_cons, ih, h.1]
theorem KV.drop {kvs : List (κ × V)} {vs : List (κ × Value)} (r : KV kvs vs) (k : κ) : KV (dropK kvs k) (without vs k) := by
  unfold KV at r ⊢
  unfold dropK without
  induction r with
  | nil => exact .nil
  | @cons p q ps qs h t ih =>
    obtain ⟨h1, h2⟩ := h
    rw [List.filter_cons, List.filter_cons]
    by_cases e : p.1 = k
    · have a : ¬ decide (p.1 ≠ k) = true := by simp [e]
      have b : ¬ decide (q.1 ≠ k) = true := by simp [h1.symm.trans e]
      rw [if_neg a, if_neg b]; exact ih
    · have e' : ¬ q.1 = k := fun z => e (h1.trans z)
      have a : decide (p.1 ≠ k) = true := by simp [e]
      have b : decide (q.1 ≠ k) = true := by simp [e']
      rw [if_pos a, if_pos b]; exact .cons ⟨h1, h2⟩ ih
theorem KV.keys {kvs : List (κ × V)} {vs : List (κ × Value)} (r : KV kvs vs) : kvs.map (·.1) = vs.map (·.1) := by
  unfold KV at r
  induction r with
  | nil => rfl
  | cons h t ih => rw [List.map_cons, List.map_cons, ih, h.1]
theorem KV.length {kvs : List (κ × V)} {vs : List (κ × Value)} (r : KV kvs vs) : kvs.length = vs.length := Paired.length r
end


/-- raw entries of a dict with tuple keys -/
abbrev KT (H : Hp) : List (List Key × V) → List (List Key × Addr × Value) → Prop := Paired fun p q => p.1 = q.1 ∧ H q.2.1 = some (.tup (p.1.map kV)) ∧ RelV p.2 q.2.2
theorem KT.keeps {H H' : Hp} {kvs : List (List Key × V)} {xs : List (List Key × Addr × Value)} (r : KT H kvs xs) (ht : ∀ b ys, H b = some (.tup ys) → H' b = some (.tup ys)) : KT H' kvs xs :=
  Paired.mapP r fun _ _ z => ⟨z.1, ht _ _ z.2.1, z.2.2⟩

section
variable {P : Program} {w : World} {H : Hp} {h : Heap} {a : Addr}
theorem rd_of {u : HO} (ok : HOk P w H h) (e : Rd H a u) : ObjOk P w H h a u := e.ok ok
theorem dk_rd {kvs : List (Key × V)} (ok : HOk P w H h) (e : Rd H a (.dK kvs)) : kvs.length ≤ sizeLine ∧ (a == sysModules) = false ∧ ∃ vs, KV kvs vs ∧ h.DictOf (mixKind P w) a vs :=
  show ObjOk P w H h a (.dK kvs) from rd_of ok e
theorem dk_of {kvs : List (Key × V)} (ok : HOk P w H h) (e : H a = some (.dK kvs)) : kvs.length ≤ sizeLine ∧ (a == sysModules) = false ∧ ∃ vs, KV kvs vs ∧ h.DictOf (mixKind P w) a vs := dk_rd ok (.inl e)
end

/-- what the dict at a holds at the key y -/
def DGet (H : Hp) (a : Addr) (y : V) (r : Option V) : Prop :=
  (∃ kvs k, Rd H a (.dK kvs) ∧ y = kV k ∧ r = valV kvs k) ∨ ∃ kvs k b, Rd H a (.dT kvs) ∧ y = .ref b ∧ H b = some (.tup (k.map kV)) ∧ r = valV kvs k
/-- the heap behind a[y] = v -/
def DPut (H : Hp) (a : Addr) (y v : V) (H' : Hp) : Prop :=
  (∃ kvs k, H a = some (.dK kvs) ∧ y = kV k ∧ kvs.length < sizeLine ∧ H' = upd H a (.dK (putK kvs k v))) ∨
  ∃ kvs k b, H a = some (.dT kvs) ∧ y = .ref b ∧ H b = some (.tup (k.map kV)) ∧ kvs.length < sizeLine ∧ H' = upd H a (.dT (putK kvs k v))
theorem DGet.k {H : Hp} {a : Addr} {kvs : List (Key × V)} {k : Key} (e : H a = some (.dK kvs)) : DGet H a (kV k) (valV kvs k) := .inl ⟨kvs, k, .inl e, rfl, rfl⟩
theorem DGet.t {H : Hp} {a b : Addr} {kvs : List (List Key × V)} {k : List Key} (e : H a = some (.dT kvs)) (eb : H b = some (.tup (k.map kV))) : DGet H a (.ref b) (valV kvs k) := .inr ⟨kvs, k, b, .inl e, rfl, eb, rfl⟩
theorem DPut.k {H : Hp} {a : Addr} {kvs : List (Key × V)} {k : Key} {v : V} (e : H a = some (.dK kvs)) (hl : kvs.length < sizeLine) : DPut H a (kV k) v (upd H a (.dK (putK kvs k v))) := .inl ⟨kvs, k, e, rfl, hl, rfl⟩
theorem DPut.t {H : Hp} {a b : Addr} {kvs : List (List Key × V)} {k : List Key} {v : V} (e : H a = some (.dT kvs)) (eb : H b = some (.tup (k.map kV))) (hl : kvs.length < sizeLine) :
    DPut H a (.ref b) v (upd H a (.dT (putK kvs k v))) := .inr ⟨kvs, k, b, e, rfl, eb, hl, rfl⟩


section
variable {X : Cx} {pins : List (Addr × Obj)} {σ : St} {H : Hp} {s : Shared} {a : Addr} {y v : V} {u r : Value} {o : Option V} {A : Around} {E : Value → Shared → Prop}

theorem Inv.big (I : Inv X pins σ H s) : sysModules < s.heap.objs.size := by
  have h : mainGlobals < s.heap.objs.size := (I.mod.glob.keeps I.bk).lt
  exact Nat.lt_trans (by decide) h

end

section
variable {X : Cx} {pins : List (Addr × Obj)} {σ : St} {H : Hp} {s : Shared} {a : Addr} {kvs : List (Key × V)} {k : Key} {u : Value} {A : Around} {E : Value → Shared → Prop}
end


section
variable {X : Cx} {o i e value : Expr} {pos pos' tpos : Pos} {td ty tv : TE}
end


section
variable {X : Cx} {pos : Pos}
end

/-- a method call o.m(e) of a built-in, with one argument: what must be seen of the text -/
structure M1 (X : Cx) (o : Expr) (m : Str) (apos : Pos) (e : Expr) (cpos : Pos) : Prop where
  base : attributeBase o m X.env (eval o X.env) = eval o X.env
  few : ((backTo cpos (starEach [e] X.env)).all (fun x => !x.1) && (backToKw cpos (keywordEach [] X.env)).all (fun x => x.1.isSome)
    && decide (([e] : List Expr).length + ([] : List Keyword).length + (if ([] : List Keyword).isEmpty then 0 else 1) < 30)) = true
  line : (apos.endLine == cpos.line) = true
  trees : backTo cpos (starEach [e] X.env) = [(false, eval e X.env)]
structure M2 (X : Cx) (o : Expr) (m : Str) (apos : Pos) (e f : Expr) (cpos : Pos) : Prop where
  base : attributeBase o m X.env (eval o X.env) = eval o X.env
  few : ((backTo cpos (starEach [e, f] X.env)).all (fun x => !x.1) && (backToKw cpos (keywordEach [] X.env)).all (fun x => x.1.isSome)
    && decide (([e, f] : List Expr).length + ([] : List Keyword).length + (if ([] : List Keyword).isEmpty then 0 else 1) < 30)) = true
  line : (apos.endLine == cpos.line) = true
  trees : backTo cpos (starEach [e, f] X.env) = [(false, eval e X.env), (false, eval f X.env)]

section
variable {X : Cx} {pins : List (Addr × Obj)} {σ : St} {H : Hp} {s : Shared} {a : Addr} {y d : V} {u r : Value} {o : Option V} {A : Around} {E : Value → Shared → Prop}
end

section
variable {X : Cx} {o e f : Expr} {apos cpos : Pos} {td ty tx : TE}
end

section
variable {X : Cx} {pins : List (Addr × Obj)} {σ : St} {H : Hp} {s : Shared} {a : Addr} {kvs : List (Key × V)} {A : Around} {E : Value → Shared → Prop}
end


section
variable {X : Cx} {pins : List (Addr × Obj)} {σ : St} {H : Hp} {s : Shared} {a : Addr} {y : V} {u : Value} {A : Around} {E : Value → Shared → Prop}
end
end L2

namespace L2
open PySem PySem.Spec PyProof.Rows

section
variable {prog : Program} {w : World} {A : Around} {E : Value → Shared → Prop}
end

section
variable {X : Cx}
end
end L2

namespace L2
open PySem PySem.Spec PyProof.Rows

section
variable {X : Cx} {pins : List (Addr × Obj)} {σ : St} {H : Hp} {s : Shared} {h' : Heap}
end
section
variable {X : Cx}
end

/-- range(i, j, c): small bounds, n items -/
def RgC (i j c : Int) (n : Nat) : Prop := c ≠ 0 ∧ c.natAbs < 1073741824 ∧ Builtin.Range.small i j c = true ∧ Builtin.Range.rangeSize i j c = n
theorem RgC.neg {i j : Int} (ha : -(2 ^ 62) ≤ i) (ha' : i < 2 ^ 62) (hb : -(2 ^ 62) ≤ j) (hb' : j < 2 ^ 62) : RgC i j (-1) (i - j).toNat :=
  ⟨by decide, by decide, PySem.W.small_down ha ha' hb hb', PySem.W.rangeSize_downNat i j⟩
section
variable {X : Cx} {tg : Expr}
end
section
variable {X : Cx} {tg : Expr}
end

section
variable {prog : Program} {w : World} {A : Around} {E : Value → Shared → Prop} {s : Shared}
end

section
variable {X : Cx} {pins : List (Addr × Obj)} {σ : St} {H : Hp} {s : Shared} {d : Addr} {o : Obj}
end

section
variable {P : Program} {w : World} {K : PySem.W.Frag} {tg : Expr} {d : Addr} {o : Obj} {es : Array DictEntry} {ep : Nat}
end

section
variable {X : Cx} {tg e : Expr} {td : TE} {apos cpos : Pos}
end

end L2

section 
namespace Bits
open PySem PyProof.Rows

end Bits
end 

section 
namespace TL
open PySem PySem.Builtin PySem.Builtin.Str PySem.StrLaws

abbrev tl (x : Str) : List Nat := x.cps.toList
/-- S stands at the head of l -/
def pre (S l : List Nat) : Bool := l.take S.length == S
/-- what stands before the first S, and behind it -/
def par (S : List Nat) : List Nat → List Nat → Option (List Nat × List Nat)
  | _, [] => none
  | acc, c :: r => if pre S (c :: r) = true then some (acc, (c :: r).drop S.length) else par S (acc ++ [c]) r

end TL
end 

namespace L2
open PySem PySem.Spec PyProof.Rows

section
variable {X : Cx} {pins : List (Addr × Obj)} {σ : St} {H : Hp} {s : Shared} {Q : VK}
end

section
variable {X : Cx}

end

section
variable {X : Cx} {o e : Expr} {to te : TE}
end
end L2

namespace L2
open PySem PySem.Spec PyProof.Rows

section
variable {X : Cx}
end

theorem IsPart.raw {v : Value} {o : Option Int} (p : IsPart v o) : ∃ l : Option (Int × Tok), v = partValue l ∧ l.map (·.1) = o := by
  cases p with
  | none => exact ⟨none, rfl, rfl⟩
  | int i t => exact ⟨some (i, t), rfl, rfl⟩

end L2

namespace Att
open PySem PySem.W PySem.Calls PyProof.Rows

theorem ints_of_wellAll {P : Params} {h : Heap} : ∀ (ns : List Int) (vs : List Value), WellAll P h vs (ns.map WData.int) → IntsAre vs ns := by
  intro ns
  induction ns with
  | nil =>
    intro vs w
    rw [List.map_nil] at w
    cases w
    exact .nil
  | cons n ns ih =>
    intro vs w
    rw [List.map_cons] at w
    cases w with
    | cons a b =>
      cases a
      exact .cons _ _ (ih _ b)

theorem script_of {l : OpenLaw} {n : Nat} (hn : l.most = some n) {P : Params} {h : Heap} {args : List WData} {vals : List Value}
    (hpre : l.row.toRowW.claim.pre args = true) (hwl : WellAll P h vals args) :
    ∃ a vs ns, vals = [Value.ref a] ∧ args = [WData.list (ns.map WData.int)] ∧ h.get? a = some { cls := .type "list", data := .seq vs.toArray } ∧ IntsAre vs ns ∧ ns.length ≤ n := by
  have hsh : WShape.hasAll [] args [.list .int] = true := (pre_splitW hpre).1
  have hc : l.pre.holds [] { args := args } = true := (pre_splitW hpre).2
  obtain ⟨d, r, rfl, h1, h2⟩ := hasAllW_cons hsh
  obtain rfl := hasAllW_nil h2
  obtain ⟨xs, rfl, h3⟩ := hasW_list h1
  obtain ⟨ns, rfl⟩ := items_int h3
  have hlen : ns.length ≤ n := by
    unfold OpenLaw.pre at hc
    have h4 : (WTm.not (.lt (.lit (.int (n : Int))) (.len (.arg 0)))).holds [] { args := [.list (ns.map .int)] } = true := by
      have h4 := (holds_andW hc).1
      rw [hn] at h4
      exact h4
    have h5 := condW_of h4 (w_not (w_lt w_lit (w_len_list (w_arg rfl))))
    rw [List.length_map] at h5
    refine Nat.le_of_not_lt fun q => ?_
    have q' : (n : Int) < ((ns.length : Nat) : Int) := by omega
    first
      | (rw [decide_eq_true q'] at h5; exact absurd h5 (by decide))
      | (simp at h5; omega)
  cases hwl with
  | cons w1 w2 =>
    cases w2
    cases w1 with
    | list ho hall => exact ⟨_, _, ns, rfl, rfl, ho, ints_of_wellAll ns _ hall, hlen⟩

theorem post_true (l : OpenLaw) (args : List WData) : l.row.toRowW.claim.post args (.bool true) args = true :=
  postW_of (r := l.row.toRowW) (X := (true == true))
    (show WShape.has [] (.bool true) .bool = true by first | rfl | decide | simp [WShape.has, WShape.arms, WShape.armsAll])
    (show (WTm.eq .res (.lit (.bool true))).value [] { args := args, res := some (.bool true), after := args } = some (.bool (true == true)) from w_eq_bool (w_res rfl) w_lit) rfl

/-- the same from a codeAny of the CALL (for a layer whose function contracts speak of calls) -/
theorem attach_call {l : OpenLaw} {n : Nat} {q : Program} {loose : List Str} {XP : (Str → Option Value) → Heap → Prop} {YP : World → Heap → Prop} {d : DefRec}
    (hn : l.most = some n) (hdf : d.params.defaults = [])
    (call : ∀ (w : World) (s₀ s₁ : Shared) (mg mb : Str → Option Value) (fa : Addr) (o : Obj) (pm cd doc : Value) (a : Addr) (vs : List Value) (ns : List Int),
      Ground q loose [] XP w s₀ mg mb s₁.heap → YP w s₁.heap →
      s₁.heap.get? fa = some o → o.data = .func (docDef d.name d.params d.body d.scope pm cd doc) → s₁.heap.CodeRec cd d.name → mg d.name = some (.ref fa) →
      s₁.heap.get? a = some { cls := .type "list", data := .seq vs.toArray } → IntsAre vs ns → ns.length ≤ n → s₁.gens = #[] →
      codeAny (model l.prog w) callerA (.call (.ref fa) ⟨[.ref a], []⟩) (fun r s' => r = .ok (.ret (.bool true)) ∧ OldK s₁.heap s'.heap ∧ s'.os = s₁.os ∧ AllBare s'.gens) s₁) :
    WalkO q loose XP YP l.row.toRowW d [] (fun f vs => PySem.call f vs) := by
  intro w s₀ s₁ mg mb G Y fa o pm cd doc dV kV ho hd hcd hD hmg hg args vals as hpre hlay hrd hwl hlo
  obtain rfl : dV = .none := Dflts.none hD hdf
  obtain rfl : kV = .none := Dflts.noKw hD
  obtain ⟨a, vs, ns, rfl, rfl, hobj, hints, hlen⟩ := script_of hn hpre hwl
  refine enter_call (codeAny_mono (call w s₀ s₁ mg mb fa o pm cd doc a vs ns G Y ho (fd_plain hd) hcd hmg hobj hints hlen hg) fun r s' hq => ?_)
  obtain ⟨rfl, h2, h3, h4⟩ := hq
  exact ⟨.inl ⟨.bool true, .bool true, [], rfl, fun _ => rfl, .bool true, post_true l _, fun _ => ⟨List.Pairwise.nil, fun _ hm => (nomatch hm)⟩⟩, h2, h3, h4⟩

section
variable {prog : Program} {w : World} {A : Around} {E : Value → Shared → Prop} {s : Shared} {K : Frag}

end
end Att

namespace L2
open PySem PySem.Spec PyProof.Rows

theorem vals_ints : ∀ {vs : List Value} {ns : List Int}, IntsAre vs ns → Vals (ns.map V.int) vs
  | _, _, .nil => .nil
  | _, _, .cons n t h => .cons ⟨t, rfl⟩ (vals_ints h)

/-- nothing is tracked but the script, known to the object (or it is an object of the module) -/
def Only (H : Hp) : Prop := ∀ b, H b = none ∨ (∃ o xs, H b = some (.frz o (.lst xs))) ∨ H b = some (.tbl #[])

/-- THE HEAD, with the tables of the top's defs tracked -/
theorem law_call {P : Program} {w : World} {K : PySem.W.Frag} {mg mb : Str → Option Value} {CX : CXT} {k : Nat} {fa a : Addr} {fd : FuncData} {x : Str} {sp : Sp} {s₁ : Shared} {vs : List Value} {ns : List Int}
    (KX : K.In s₁.heap) (hns : s₁.heap.Ns mainGlobals mg) (hb : s₁.heap.Ns builtinsNs mb) (hbb : ∀ x : Str, x ≠ "__name__" → mb x = bootBuiltins x) (hlim : s₁.heap.NoLimit) (hg : s₁.gens = #[])
    (ha : s₁.heap.get? a = some { cls := .type "list", data := .seq vs.toArray }) (hi : IntsAre vs ns) (hl : ns.length ≤ sizeLine) (hr : Room k callerA)
    (hbm : ∃ bm ob, BMod s₁.heap mainGlobals mg bm ob) (hT : ∀ Pt, TabOf P K mg Pt → K.lookup Pt = none ∧ ∃ c, s₁.heap.TableAt c Pt #[])
    (F : ∀ base : Heap, K.In base → base.Ns mainGlobals mg → FnOk P w K mg base CX k fa fd [x] sp) (hbind : ∀ (s : Shared) (u : Value), BindsTo s fd ⟨[u], []⟩ [(x, u)])
    (hsp : ∀ H : Hp, Only H → SqL K H a (ns.map V.int) → sp [.ref a] H (fun v _ => v = .bl true) fun _ _ _ => False)
    (hCX : ∀ H e s', CX [] H s₁ (fun _ _ _ => False) e s' → False) :
    codeAny (model P w) callerA (.call (.ref fa) ⟨[.ref a], []⟩) (fun r s' => r = .ok (.ret (.bool true)) ∧ OldK s₁.heap s'.heap ∧ s'.os = s₁.os ∧ AllBare s'.gens) s₁ := by
  have rv := vals_ints hi
  have lenV := hi.length
  have noTa : ¬ TabOf P K mg a := fun t => by
    obtain ⟨_, c, _, ht⟩ := hT a t
    rw [ha] at ht
    cases ht
  have core : ∀ H : Hp, Only H → SqL K H a (ns.map V.int) → HOk P w H s₁.heap → (∀ b, H b ≠ none → (b = a ∧ ∃ o xs, H b = some (.frz o (.lst xs))) ∨ (TabOf P K mg b ∧ H b = some (.tbl #[]))) → Tabs P K mg H → (H a ≠ none → K.lookup a = none) →
      codeAny (model P w) callerA (.call (.ref fa) ⟨[.ref a], []⟩) (fun r s' => r = .ok (.ret (.bool true)) ∧ OldK s₁.heap s'.heap ∧ s'.os = s₁.os ∧ AllBare s'.gens) s₁ := by
    intro H hO hS hok hA hTb hK
    have base_of : ∀ {b : Addr} {o : Obj}, s₁.heap.get? b = some o → H b = none → (hidT s₁.heap H).get? b = some o := fun e n => hidT_get e n
    have noA : ∀ {b : Addr} {o : Obj} {es : Array DictEntry} {ep : Nat}, s₁.heap.get? b = some o → o.data = .dict es ep → H b = none := fun {b o es ep} e d => by
      cases q : H b with
      | none => rfl
      | some u =>
        rcases hA b (by rw [q]; simp) with ⟨e', _⟩ | ⟨tb, _⟩
        · subst e'
          rw [ha] at e; cases e
          have d' : Data.seq vs.toArray _ = Data.dict es ep := d
          cases d'
        · obtain ⟨_, c, _, ht⟩ := hT b tb
          rw [ht] at e; cases e
          have d' : Data.fields _ = Data.dict es ep := d
          cases d'
    have nsK : ∀ {b : Addr} {m : Str → Option Value}, s₁.heap.Ns b m → (hidT s₁.heap H).Ns b m := fun {b m} ⟨o, es, ep, e, d, r⟩ => ⟨o, es, ep, base_of e (noA e d), d, r⟩
    have hKb : K.In (hidT s₁.heap H) := fun b o e => base_of (KX b o e) (by
      cases q : H b with
      | none => rfl
      | some u =>
        rcases hA b (by rw [q]; simp) with ⟨e', _⟩ | ⟨tb, _⟩
        · subst e'
          rw [hK (by rw [q]; simp)] at e; cases e
        · rw [(hT b tb).1] at e; cases e)
    have hM : Mod K mg (hidT s₁.heap H) := ⟨hKb, nsK hns, ⟨mb, nsK hb, hbb⟩, let ⟨mc, h1, h2⟩ := hlim; ⟨mc, nsK h1, h2⟩, by
      obtain ⟨bm, ob, M⟩ := hbm
      refine ⟨bm, ob, nsK M.ns, M.name, M.ne, base_of M.obj ?_, M.cls, M.dict, M.data⟩
      cases q : H bm with
      | none => rfl
      | some u =>
        have hob := M.obj
        have hda := M.data
        rcases hA bm (by rw [q]; simp) with ⟨e', _⟩ | ⟨tb, _⟩
        · rw [e', ha] at hob
          cases hob
          cases hda
        · obtain ⟨_, c, _, ht⟩ := hT bm tb
          rw [ht] at hob
          cases hob
          cases hda⟩
    have e0 : Env0 P w K mg (hidT s₁.heap H) callerA [] s₁ H := ⟨rfl, hM, fun b o e => of_hidT e, Nat.le_of_eq (hidT_size _ _), trivial, fun b hb => absurd (show b ∈ ([] : List Addr) from hb) (by simp), hok, .of_eq hg, hTb⟩
    refine codeAny_mono ((F _ hKb (nsK hns)).run callerA [] s₁ H ⟨[.ref a], []⟩ [.ref a] [.ref a] _ _ hr e0 (hbind s₁ (.ref a)) (.cons rfl .nil) (hsp H hO hS)) fun r s' h => ?_
    cases r with
    | error e => exact (hCX H e s' h).elim
    | ok fl =>
      cases fl with
      | next => exact False.elim h
      | brk => exact False.elim h
      | cont => exact False.elim h
      | ret u =>
        obtain ⟨v, H', os, bare, un, hok', r', q⟩ := h
        have q' : v = .bl true := q
        subst q'
        obtain rfl : u = Value.bool true := r'
        refine ⟨rfl, ⟨fun b o e => ?_, fun b o e => un.there b o e (by simp)⟩, os, bare.1⟩
        cases q : H b with
        | none => exact .inl (un.keep b o e q (by intro z; exact absurd (show b ∈ ([] : List Addr) from z) (by simp)) (by simp))
        | some u =>
          rcases hA b (by rw [q]; simp) with ⟨_, ob, xs, z⟩ | ⟨tb, z⟩
          · have z2 := un.frzs b ob _ z
            obtain ⟨e1, _⟩ := hok b _ z
            obtain ⟨e2, _⟩ := hok' b _ z2
            rw [e] at e1; cases e1
            exact .inl e2
          · obtain ⟨_, c, ht⟩ := hT b tb
            obtain ⟨more, z2⟩ := un.tbls b _ z
            have e2 : s'.heap.get? b = some { cls := .none, data := .fields (#[] ++ more) } := (show _ ∧ _ from hok' b _ z2).1
            have eo : o = { cls := .none, data := .fields #[] } := Option.some.inj (e.symm.trans ht.2)
            subst eo
            exact .inr (.inl ⟨ht.isCodeTable, rfl, #[], more, rfl, e2⟩)
  classical
  cases hk : K.lookup a with
  | some o =>
    -- the script is one of the module's own objects
    have e := KX a o hk
    rw [ha] at e
    cases e
    refine core (fun b => if TabOf P K mg b then some (.tbl #[]) else none) (fun b => ?_) (.inr ⟨_, vs.toArray, _, hk, rfl, rfl, rfl, by rw [List.size_toArray, lenV]; exact hl, by simpa using rv⟩) (fun b u z => ?_) (fun b z => ?_) (fun Pt t => ⟨_, if_pos t⟩) fun z => absurd (if_neg noTa) z
    · by_cases hb : TabOf P K mg b
      · exact .inr (.inr (if_pos hb))
      · exact .inl (if_neg hb)
    · by_cases hb : TabOf P K mg b
      · have z' := (if_pos hb).symm.trans z
        cases z'
        obtain ⟨_, c, ht⟩ := hT b hb
        exact ⟨ht.2, trivial⟩
      · have z' := (if_neg hb).symm.trans z
        cases z'
    · by_cases hb : TabOf P K mg b
      · exact .inr ⟨hb, if_pos hb⟩
      · exact absurd (if_neg hb) z
  | none =>
    refine core (fun b => if b = a then some (.frz { cls := .type "list", data := .seq vs.toArray } (.lst (ns.map V.int))) else if TabOf P K mg b then some (.tbl #[]) else none) (fun b => ?_) (.inl (.inr ⟨{ cls := .type "list", data := .seq vs.toArray }, if_pos rfl⟩)) (fun b u z => ?_) (fun b z => ?_)
      (fun Pt t => ⟨#[], by show (if Pt = a then _ else if TabOf P K mg Pt then _ else _) = _; rw [if_neg (show ¬ Pt = a from fun z => noTa (by rw [← z]; exact t)), if_pos t]⟩) fun _ => hk
    · by_cases hb : b = a
      · exact .inr (.inl ⟨_, _, if_pos hb⟩)
      · by_cases ht : TabOf P K mg b
        · exact .inr (.inr ((if_neg hb).trans (if_pos ht)))
        · exact .inl ((if_neg hb).trans (if_neg ht))
    · by_cases hb : b = a
      · have z' := (if_pos hb).symm.trans z
        cases z'
        subst hb
        exact ⟨ha, by rw [List.length_map]; exact hl, vs, _, rv, ha⟩
      · by_cases ht : TabOf P K mg b
        · have z' := ((if_neg hb).trans (if_pos ht)).symm.trans z
          cases z'
          obtain ⟨_, c, ht⟩ := hT b ht
          exact ⟨ht.2, trivial⟩
        · have z' := ((if_neg hb).trans (if_neg ht)).symm.trans z
          cases z'
    · by_cases hb : b = a
      · exact .inl ⟨hb, _, _, if_pos hb⟩
      · by_cases ht : TabOf P K mg b
        · exact .inr ⟨ht, (if_neg hb).trans (if_pos ht)⟩
        · exact absurd ((if_neg hb).trans (if_neg ht)) z
end L2

namespace L2
open PySem PySem.Spec PyProof.Rows

/-- the tables at the law's entry -/
theorem tabs_at {l q : Program} {loose : List Str} {R : PySem.W.WRecords} {XP : (Str → Option Value) → Heap → Prop} {w : World} {s₀ : Shared} {mg mb : Str → Option Value} {h : Heap} {K : PySem.W.Frag} (G : PySem.W.Ground q loose R XP w s₀ mg mb h)
    (KX : K.In h) (hq : recsOf l = recsOf q) (hcl : PySem.W.kb_classed K = true) : ∀ Pt, TabOf l K mg Pt → K.lookup Pt = none ∧ ∃ c, h.TableAt c Pt #[] := by
  rintro Pt ⟨d, hd, f, o, fd, c, oc, vs, h1, h2, h3, h4, h5, h6, h7⟩
  rw [hq] at hd
  obtain ⟨a', o', fd', c', P', t1, t2, t3, t4, t5, t6⟩ := G.T.tab d hd
  rw [h1] at t1
  cases t1
  have e1 := KX _ _ h2
  rw [t2] at e1
  cases e1
  rw [h3] at t3
  cases t3
  rw [h4] at t4
  cases t4
  obtain ⟨oq, vq, _, _, _, _, _, _, _, _, g1, g2, g3, _⟩ := t5
  have e2 := KX _ _ h5
  rw [g1] at e2
  cases e2
  rw [h6] at g2
  cases g2
  rw [h7] at g3
  cases g3
  refine ⟨?_, c, t6⟩
  cases hk : K.lookup Pt with
  | none => rfl
  | some op =>
    exfalso
    have e3 := KX _ _ hk
    have q := List.all_eq_true.mp hcl (Pt, op) (PySem.W.kb_mem hk)
    simp only [Bool.or_eq_true, decide_eq_true_eq, beq_iff_eq] at q
    have e4 := t6.2
    rw [e3] at e4
    cases e4
    rcases q with (q | q) | q
    · exact q rfl
    · obtain ⟨mc, ⟨ox, es, ep, n1, n2, _⟩, _⟩ := G.T.nodigits
      rw [← q, e3] at n1
      cases n1
      cases n2
    · obtain ⟨ox, es, ep, n1, n2, _⟩ := G.T.g
      rw [← q, e3] at n1
      cases n1
      cases n2
/-- the goal that k_head leaves, from the law's promise -/
theorem walk_of {l : PySem.W.OpenLaw} {n k : Nat} {q : Program} {loose : List Str} {XP : (Str → Option Value) → Heap → Prop} {YP : World → Heap → Prop} {d : DefRec} {K : Params → PySem.W.Frag} {CX : World → CXT} {sp : World → Sp} {x : Str}
    (hn : l.most = some n) (hn2 : n ≤ sizeLine) (hdf : d.params.defaults = []) (hr : Room k callerA)
    (hq : recsOf l.prog = recsOf q) (hcl : ∀ w : World, PySem.W.kb_classed (K w.params) = true)
    (hY : ∀ (w : World) (h : Heap), YP w h → (K w.params).In h)
    (F : ∀ (w : World) (mg : Str → Option Value) (fa : Addr) (h : Heap), (K w.params).In h → h.Ns mainGlobals mg → mg d.name = some (.ref fa) →
      ∃ fd : FuncData, (∀ (s : Shared) (u : Value), BindsTo s fd ⟨[u], []⟩ [(x, u)]) ∧
        ∀ base : Heap, (K w.params).In base → base.Ns mainGlobals mg → FnOk l.prog w (K w.params) mg base (CX w) k fa fd [x] (sp w))
    (hsp : ∀ (w : World) (H : Hp) (a : Addr) (ns : List Int), ns.length ≤ n → Only H → SqL (K w.params) H a (ns.map V.int) → sp w [.ref a] H (fun v _ => v = .bl true) fun _ _ _ => False)
    (hCX : ∀ (w : World) (H : Hp) (s : Shared) (e : Value) (s' : Shared), CX w [] H s (fun _ _ _ => False) e s' → False) :
    PySem.W.WalkO q loose XP YP l.row.toRowW d [] (fun f vs => PySem.call f vs) := by
  refine Att.attach_call hn hdf fun w s₀ s₁ mg mb fa o pm cd doc a vs ns G Y ho hd hcd hmg hobj hints hlen hg => ?_
  have KX := hY w _ Y
  obtain ⟨fd, hb, hF⟩ := F w mg fa _ KX G.T.g hmg
  exact law_call KX G.T.g G.T.b G.T.builtins G.T.nolimit hg hobj hints (Nat.le_trans hlen hn2) hr (PySem.W.bmod_of_top G.T) (tabs_at G KX hq (hcl w)) hF hb (fun H hO hS => hsp w H a ns hlen hO hS) fun H e s' => hCX w H s₁ e s'
end L2


namespace L2
open PySem PySem.Spec PyProof.Rows

def defArgs (s : Stmt) : Arguments := match s with
  | .FunctionDef _ a _ _ _ _ _ _ _ _ => a
  | _ => { posonlyargs := [], args := [], vararg := none, kwonlyargs := [], kw_defaults := [], kwarg := none, defaults := [] }
def defBody (s : Stmt) : List Stmt := match s with
  | .FunctionDef _ _ b _ _ _ _ _ _ _ => b
  | _ => []
def defScope (s : Stmt) : Scope := match s with
  | .FunctionDef _ _ _ _ _ _ sc _ _ _ => sc
  | _ => { kind := .function, names := [], isGenerator := false, isCoroutine := false }

abbrev CX0 : CXT := fun _ _ _ _ _ _ => False
abbrev E0 : XK := fun _ _ _ => False
theorem pass0 {X : Cx} : Passes CX0 X E0 := fun _ _ _ _ _ _ _ h => h.elim

structure Fun (K : PySem.W.Frag) (x qual : Str) (st : Stmt) (f : Addr) (fd : FuncData) : Prop where
  ex : ∃ (oc : Value) (od : Option Addr) (kV doc pm : Value) (an : Option Addr) (cdv ct : Value) (osl : Array (Option Value)),
    fd = PySem.W.fnOf x qual (defArgs st) (defBody st) (defScope st) .none kV doc pm an cdv ct ∧ K.lookup f = some ⟨oc, od, .func fd, osl⟩ ∧ PySem.W.codeIn K cdv qual = true
  kp : PySem.W.keepIn K (.ref f) = true
section
variable {P : Program} {w : World} {K : PySem.W.Frag} {mg : Str → Option Value} {base : Heap}
/-- THE RULE for a def: its body as a term of rules, and the reading of that term -/
theorem Fun.ok {x qual : Str} {st : Stmt} {f : Addr} {fd : FuncData} {N ps : List Str} {k : Nat} {sp : Sp} (F : Fun K x qual st f fd) (S : FnScope N ps (defScope st)) (len : ∀ vs H Q E, sp vs H Q E → vs.length = ps.length)
    (hbody : ∀ (cdv : Value) (A : Around) (outer : List Env) (s : Shared) (H : Hp) (vs : List V) (Q : VK) (E : XK), Room k (A.deeper (envOfC qual (defScope st) s.heap.objs.size f cdv)) → sp vs H Q E →
      ∃ t, PSs (cxOf CX0 P w K mg base N qual (defScope st) f cdv A outer s H E).nox (defBody st) t ∧ t { nx := fun _ H' => Q .non H', rt := Q } (start N vs) H) : FnOk P w K mg base CX0 (k + 1) f fd ps sp := by
  obtain ⟨oc, od, kV, doc, pm, an, cdv, ct, osl, rfl, lk, hcd⟩ := F.ex
  refine fn_of lk hcd S len fun A outer s H vs Q E hr hsp => ?_
  obtain ⟨t, h, q⟩ := hbody cdv A outer s H vs Q E hr hsp
  exact ⟨t, h.nox, q⟩
/-- how its arguments bind (no defaults): h is «fun _ _ _ _ _ _ us hl => match us, hl with | [_, _], _ => rfl», one _ a parameter -/
theorem Fun.binds {x qual : Str} {st : Stmt} {f : Addr} {fd : FuncData} {ps : List Str} (F : Fun K x qual st f fd)
    (h : ∀ (kV doc pm : Value) (an : Option Addr) (cdv ct : Value) (us : List Value), us.length = ps.length → bindArgs (PySem.W.fnOf x qual (defArgs st) (defBody st) (defScope st) .none kV doc pm an cdv ct) ⟨us, []⟩ = pure (ps.zip us)) : Binds K fd ps [] := by
  obtain ⟨oc, od, kV, doc, pm, an, cdv, ct, osl, rfl, lk, hcd⟩ := F.ex
  exact .all (h kV doc pm an cdv ct)
theorem fun_mk {x qual : Str} {st : Stmt} {f : Addr} {oc : Value} {od an : Option Addr} {osl : Array (Option Value)} {kV doc pm cdv ct : Value} (l : K.lookup f = some ⟨oc, od, .func (PySem.W.fnOf x qual (defArgs st) (defBody st) (defScope st) .none kV doc pm an cdv ct), osl⟩)
    (c : PySem.W.codeIn K cdv qual = true) (k : PySem.W.keepIn K (.ref f) = true) : Fun K x qual st f (PySem.W.fnOf x qual (defArgs st) (defBody st) (defScope st) .none kV doc pm an cdv ct) := ⟨⟨oc, od, kV, doc, pm, an, cdv, ct, osl, rfl, l, c⟩, k⟩
end
theorem small1000 {n : Nat} (h : n ≤ 1000) : n < sizeLine := Nat.lt_of_le_of_lt h (by decide)

section
variable {X : Cx}
theorem pv (i : Nat) {x : Str} {pos : Pos} (hN : X.N[i]? = some x := by rfl) (hv : Vis X.env.scope x := by first | exact Or.inl rfl | exact Or.inr (Or.inl rfl) | exact Or.inr (Or.inr rfl)) (hd : (x == ("__debug__" : Str)) = false := by decide)
    (hcd : (x == ("__classdict__" : Str)) = false := by decide) : PE X (.Name x pos) (tVar i) := pe_var hN hv hd hcd
end

theorem ite2 {c A B : Prop} [Decidable c] (h1 : c → A) (h2 : ¬ c → B) : if c then A else B := by
  by_cases h : c
  · rw [if_pos h]
    exact h1 h
  · rw [if_neg h]
    exact h2 h
/-- all that was tracked is as it was -/
def SamO (o : HO) (x : Option HO) : Prop := match o with | .tbl _ => ∃ qs, x = some (.tbl qs) | o => x = some o
theorem SamO.refl (o : HO) : SamO o (some o) := by cases o <;> first | rfl | exact ⟨_, rfl⟩
theorem SamO.of {o : HO} {x : Option HO} (h : x = some o) : SamO o x := by rw [h]; exact SamO.refl o
theorem SamO.some {o : HO} {x : Option HO} (h : SamO o x) : ∃ u, x = some u := by cases o <;> first | exact ⟨_, h⟩ | exact let ⟨_, e⟩ := h; ⟨_, e⟩
theorem SamO.ne {o : HO} {H : Hp} {c p : Addr} (h : SamO o (H c)) (f : H p = none) : c ≠ p := fun z => by
  obtain ⟨u, e⟩ := h.some
  rw [z, f] at e
  cases e
/-- all that was tracked is as it was (code tables may have grown) -/
def Same (H H' : Hp) : Prop := ∀ b o, H b = some o → SamO o (H' b)
theorem Same.ap {H H' : Hp} (s : Same H H') {c : Addr} {o : HO} (h : SamO o (H c)) : SamO o (H' c) := by
  cases o <;> first
    | exact s c _ h
    | (obtain ⟨qs, e⟩ := h; have z : ∃ r, H' c = Option.some (.tbl r) := s c (.tbl qs) e; exact z)
theorem Same.refl (H : Hp) : Same H H := fun _ _ h => SamO.of h
theorem Same.trans {H H1 H2 : Hp} (a : Same H H1) (b : Same H1 H2) : Same H H2 := fun c o h => b.ap (a c o h)
theorem Same.free {H H' : Hp} (e : Same H H') {l : Addr} (h : H' l = Option.none) : H l = Option.none := by
  cases q : H l with
  | none => rfl
  | some o =>
    obtain ⟨u, z⟩ := (e l o q).some
    rw [z] at h
    cases h
theorem Same.tb {H : Hp} {p : Addr} {ps qs : Array Value} (h : H p = Option.some (.tbl ps)) : Same H (upd H p (.tbl qs)) := fun b o e => by
  by_cases hb : b = p
  · subst hb
    rw [h] at e
    cases e
    exact ⟨qs, upd_same⟩
  · rw [upd_ne hb]
    exact SamO.of e
theorem Same.seq {K : PySem.W.Frag} {H H' : Hp} {a : Addr} {xs : List V} (e : Same H H') (h : SqL K H a xs) : SqL K H' a xs := by
  rcases h with (h | ⟨o, h⟩) | h
  · exact .inl (.inl (e _ _ h))
  · exact .inl (.inr ⟨o, e _ _ h⟩)
  · exact .inr h

section
variable {κ : Type} [DecidableEq κ]
end
theorem at_of {xs : List V} {z : Int} {j : Nat} {v : V} (e : z = (j : Int)) (h : xs[j]? = some v) : atI xs z = some v := by
  rw [e]
  exact atI_nat h
/-- a new instance and its __init__ leave all that was tracked as it was -/
theorem Same.made {H H1 : Hp} {x dx C : Addr} (nx : H x = Option.none) (nd : H dx = Option.none) (k : ∀ b o, (upd (upd H dx (.own x)) x (.ins C dx [])) b = some o → b ≠ x → H1 b = some o) : Same H H1 := fun b o e => SamO.of <|
  k b o (by rw [upd_ne (ne_of_none e nx), upd_ne (ne_of_none e nd)]; exact e) (ne_of_none e nx)
end L2

set_option Elab.async false
set_option linter.all false
set_option maxRecDepth 100000
set_option maxHeartbeats 4000000
namespace L2
open PySem PySem.Spec PyProof.Rows

section
variable {X : Cx}
def rSortedA (K : PySem.W.Frag) : List V → Hp → VK → Prop := fun vs H Q => ∃ (a : Addr) (ns : List Int), vs = [V.ref a] ∧ SqL K H a (ns.map V.int) ∧
  ∀ (ns' : List Int) (p : Addr), ns'.Perm ns → ns'.Pairwise (· ≤ ·) → H p = none → Q (.ref p) (upd H p (.lst (ns'.map V.int)))
theorem cr_sortedA : CallR X (.builtin "sorted") (rSortedA X.K) := by
  intro pins s σ H vs us Q I r h
  obtain ⟨a, ns, rfl, hs, q⟩ := h
  obtain ⟨its, rv, hl, hz⟩ := I.list hs
  rw [Vals.ref1 r]
  have hi := rv.ints
  have hz' : ns.length ≤ sizeLine := by simpa using hz
  refine PyProof.Rows.sorted_intsAny hl.isList hi (by rw [hi.length]; exact hz') fun out ns' h1 h2 h3 => ?_
  obtain ⟨ep, he'⟩ := PyProof.Rows.sortedAll_at s.heap its out
  have hlen : (ns'.map V.int).length ≤ sizeLine := by rw [List.length_map, h2.length_eq]; exact hz'
  exact ⟨.ref _, upd H (s.heap.objs.size + 1) (.lst (ns'.map V.int)), I.laid (t' := s.toks) (fun _ _ => PyProof.Rows.sortedAll_old) (Nat.le_succ _) ⟨hlen, out.toList, ep, vals_of_ints h1, he'⟩, rfl, q ns' _ h2 h3 (I.hok.fresh (Nat.le_succ _))⟩

def tRevL (K : PySem.W.Frag) (te : TE) : TE := fun σ H Q => te σ H fun x H1 => ∃ a xs, x = .ref a ∧ SqL K H1 a xs ∧ ∀ p, H1 p = none → Q (.ref p) (upd H1 p (.lst xs.reverse))
theorem pe_rev {e : Expr} {te : TE} {j : Nat} {p1 p2 p3 pos : Pos} (he : PE X e te) : PE X (.Subscript e (.Slice none none (some (.UnaryOp .USub (.Constant (.int 1) j p1) p3)) p2) pos) (tRevL X.K te) := by
  intro pins s σ H Q I h
  refine Subscript_ (thn (he pins s σ H _ I h) fun v s1 ⟨x, H1, I1, r1, q1⟩ => ?_)
  obtain ⟨a, xs, rfl, hx, q⟩ := q1
  cases r1
  refine wpAny_Slice ?_
  rw [evalPart_none]
  refine wpAny_pure (wpAny_pure ?_)
  refine thn (po_some (X := X) (pe_un un_neg pe_int) pins s1 σ H1 (fun o H' => o = some (-1) ∧ H' = H1) I1 ⟨1, rfl, -1, rfl, rfl, rfl⟩) fun u s2 ⟨o, H2, I2, pu, e, eH⟩ => ?_
  subst e
  have eH' : H2 = H1 := eH
  subst eH'
  have I4 : Inv X pins σ H2 { s2 with heap := s2.heap.push { cls := .type "slice", data := .fields #[.none, .none, u] } } := I2.kept (t' := s2.toks) fun b ob q => Heap.get?_push_of_some _ q
  obtain ⟨its, r, ht, hz⟩ := I4.list hx
  have hlen := r.length
  show wpAny (model X.prog X.w) X.A (subscriptTail e (.Slice none none (some (.UnaryOp .USub (.Constant (.int 1) j p1) p3)) p2) (.ref a) (.ref s2.heap.objs.size)) (EP X pins σ Q) X.xe { s2 with heap := s2.heap.push { cls := .type "slice", data := .fields #[.none, .none, u] } }
  refine tail_any (ops := [.ref a, .ref s2.heap.objs.size]) ht.isList.typeIs slot_list_getitem.lookup ?_ (by with_unfolding_all rfl)
  refine wpAny_getItem_list_slice ht.isList (Heap.IsSliceOf.new ..) .none .none pu (by simp) ?_ (by rw [List.size_toArray] <;> omega)
  rw [PySem.W.krv_pick]
  refine ⟨.ref (s2.heap.push { cls := .type "slice", data := .fields #[.none, .none, u] }).objs.size, _, I4.laid (t' := s2.toks) (o := .lst xs.reverse) (fun b ob q => Heap.get?_push_of_some _ q) (Nat.le_refl _) ?_, rfl, q _ (I4.hok.fresh (Nat.le_refl _))⟩
  refine ⟨by rw [List.length_reverse]; exact hz, its.reverse, 0, ?_, Heap.get?_push_size _ rfl⟩
  exact Vals.reverse r

theorem call_isinst : CallR X (.builtin "isinstance") (fun xs H Q => ∃ x c t b, xs = [x, .ty c] ∧ TyOf X.K H x t ∧ PySem.W.kitOne X.K t (.type c) = some b ∧ Q (.bl b) H) := by
  intro pins s σ H xs us Q I r h
  obtain ⟨x, c, t, b, rfl, ty, e, q⟩ := h
  cases r with
  | cons r rr =>
    cases rr with
    | cons r' rr =>
      cases rr
      cases r'
      exact isinst_ok I r ty e fun tk => ⟨.bl b, H, I.tok tk, rfl, q⟩

end
end L2

set_option Elab.async false
set_option linter.all false
set_option maxRecDepth 100000
set_option maxHeartbeats 4000000
namespace L2
open PySem PySem.Spec PyProof.Rows

def over (H N : Hp) : Hp := fun b => match N b with | some o => some o | none => H b
theorem over_new {H N : Hp} {b : Addr} {o : HO} (h : N b = some o) : over H N b = some o := by unfold over; rw [h]
theorem over_old {H N : Hp} {b : Addr} (h : N b = none) : over H N b = H b := by unfold over; rw [h]
section
variable {X : Cx} {pins : List (Addr × Obj)} {σ : St} {H N : Hp} {s : Shared} {h' : Heap} {t' : Nat}
end

abbrev EnO (h : Heap) (e it : Addr) (f0 : Value) (f1 : Bool) (i : Int) (old : Value) : Prop :=
  h.get? e = some { cls := .type "enumerate", dict := none, data := .fields #[f0, .bool f1, .ref it, rawInt i, .none, old], slots := #[] }
/-- the enumerate object at e: its tuple is free, or was handed out and still stands -/
def EnSt (h : Heap) (e it : Addr) (i : Int) : Prop := (∃ old, IsEnum h e it i old) ∨ ∃ (a : Addr) (o : Obj) (f1 : Bool) (old : Value), EnO h e it (rawInt a) f1 i old ∧ h.get? a = some o ∧ a ≠ e ∧ a ≠ it
section
variable {prog : Program} {w : World} {A : Around} {E : Value → Shared → Prop} {s : Shared}
theorem EnSt.obj {h : Heap} {e it : Addr} {i : Int} (x : EnSt h e it i) : ∃ o, h.get? e = some o ∧ o.cls = .type "enumerate" := by
  rcases x with ⟨old, x⟩ | ⟨a, o, f1, old, x, _⟩
  · exact ⟨_, x, rfl⟩
  · exact ⟨_, x, rfl⟩
/-- the tuples that stand in acc: the i-th at an address from base on -/
def Prs (base : Nat) (items acc : Array Value) (h : Heap) : Prop :=
  ∀ (j : Nat) (u : Value), acc[j]? = some u → ∃ (T : Addr) (t : Tok) (x : Value), u = .ref T ∧ base ≤ T ∧ items[j]? = some x ∧ h.get? T = some { cls := .type "tuple", data := .seq #[.int j t, x] }
end
end L2
namespace L2
open PySem PySem.Spec PyProof.Rows
section
variable {prog : Program} {w : World} {A : Around} {E : Value → Shared → Prop} {s : Shared}
namespace FF
end FF
end
end L2
namespace L2
open PySem PySem.Spec PyProof.Rows
section
variable {X : Cx} {pins : List (Addr × Obj)} {σ : St} {H : Hp} {s : Shared}
end

end L2

set_option Elab.async false
set_option linter.all false
set_option maxRecDepth 100000
set_option maxHeartbeats 4000000
namespace L2
open PySem PySem.Spec PyProof.Rows
def Fn (P : Program) (w : World) (K : PySem.W.Frag) (mg : Str → Option Value) (base : Heap) (k : Nat) (x : Str) (ps : List Str) (sp : Sp) : Prop :=
  ∃ (f : Addr) (fd : FuncData), mg x = some (.ref f) ∧ PySem.W.keepIn K (.ref f) = true ∧ Binds K fd ps [] ∧ FnOk P w K mg base CX0 k f fd ps sp
/-- where a def stands -/
def DefAt (K : PySem.W.Frag) (mg : Str → Option Value) (x : Str) (st : Stmt) (ps : List Str) : Prop :=
  ∃ (f : Addr) (fd : FuncData), mg x = some (.ref f) ∧ Fun K x x st f fd ∧ Binds K fd ps []
section
variable {P : Program} {w : World} {K : PySem.W.Frag} {mg : Str → Option Value} {base : Heap}
theorem DefAt.fn {x : Str} {st : Stmt} {N ps : List Str} {k : Nat} {sp : Sp} (D : DefAt K mg x st ps) (S : FnScope N ps (defScope st)) (len : ∀ vs H Q E, sp vs H Q E → vs.length = ps.length)
    (hbody : ∀ (f : Addr) (cdv : Value) (A : Around) (outer : List Env) (s : Shared) (H : Hp) (vs : List V) (Q : VK) (E : XK), Room k (A.deeper (envOfC x (defScope st) s.heap.objs.size f cdv)) → sp vs H Q E →
      ∃ t, PSs (cxOf CX0 P w K mg base N x (defScope st) f cdv A outer s H E).nox (defBody st) t ∧ t { nx := fun _ H' => Q .non H', rt := Q } (start N vs) H) : Fn P w K mg base (k + 1) x ps sp := by
  obtain ⟨f, fd, hm, F, b⟩ := D
  exact ⟨f, fd, hm, F.kp, b, F.ok S len fun cdv A outer s H vs Q E hr h => hbody f cdv A outer s H vs Q E hr h⟩
theorem defAt_mk {h : Heap} (X : K.In h) (G : h.Ns mainGlobals mg) {x : Str} {st : Stmt} {ps : List Str} {f : Addr} {oc : Value} {od an : Option Addr} {osl : Array (Option Value)} {kV doc pm cdv ct : Value}
    (a : PySem.W.nsIn K mainGlobals x = some (some (.ref f))) (l : K.lookup f = some ⟨oc, od, .func (PySem.W.fnOf x x (defArgs st) (defBody st) (defScope st) .none kV doc pm an cdv ct), osl⟩)
    (c : PySem.W.codeIn K cdv x = true) (k : PySem.W.keepIn K (.ref f) = true)
    (hb : ∀ (kV doc pm : Value) (an : Option Addr) (cdv ct : Value) (us : List Value), us.length = ps.length → bindArgs (PySem.W.fnOf x x (defArgs st) (defBody st) (defScope st) .none kV doc pm an cdv ct) ⟨us, []⟩ = pure (ps.zip us)) : DefAt K mg x st ps :=
  have F := fun_mk (st := st) l c k
  ⟨f, _, PySem.W.mg_of X G a, F, F.binds hb⟩
end
/-- a call of a def of the text -/
theorem pe_fn {X : Cx} {j k : Nat} {x : Str} {ps : List Str} {sp : Sp} {p pos : Pos} {e : Expr} {es : List Expr} {t : TA} (F : Fn X.prog X.w X.K X.mg X.base k x ps sp) (hr : Room j X.A) (hg : Gl X x) (ha : PA X (e :: es) t) (hx : ∀ v s, ¬ X.xe v s → X.xe = X.xe := by intros; rfl)
    (hjk : k ≤ j := by decide) (hdb : (x == ("__debug__" : Str)) = false := by decide) (he : starEach (e :: es) X.env = (false, eval e X.env) :: starEach es X.env := by rfl) (hpl : (backTo pos (starEach es X.env)).any (·.1) = false := by rfl) :
    PE X (.Call (.Name x p) (e :: es) [] pos) (tCall sp [] E0 t) := by
  obtain ⟨f, fd, hm, kp, b, G⟩ := F
  exact pe_call G (hr.mono hjk) hg hm kp b .nil pass0 ha hdb he hpl
/-- the built-ins that are used, not hidden by the text -/
def Bl (mg : Str → Option Value) (l : List Str) : Prop := ∀ x, x ∈ l → mg x = none

/-- all but the list at p is as it was; p is a hand -/
def Hand (H : Hp) (p : Addr) : Prop := ∃ d e : Int, H p = some (.lst [.int d, .int e]) ∧ 0 ≤ e ∧ e < 2147483587
/-- what was there but at p is as it was -/
def But (p : Addr) (H H' : Hp) : Prop := ∀ b o, b ≠ p → H b = some o → SamO o (H' b)
theorem But.refl (p : Addr) (H : Hp) : But p H H := fun _ _ _ h => SamO.of h
theorem But.ap {p : Addr} {H H' : Hp} (s : But p H H') {c : Addr} {o : HO} (n : c ≠ p) (h : SamO o (H c)) : SamO o (H' c) := by
  cases o <;> first
    | exact s c _ n h
    | (obtain ⟨qs, e⟩ := h; have z : ∃ r, H' c = Option.some (.tbl r) := s c (.tbl qs) n e; exact z)
theorem But.trans {p : Addr} {H H1 H2 : Hp} (a : But p H H1) (b : But p H1 H2) : But p H H2 := fun c o n h => b.ap n (a c o n h)
theorem But.same {p : Addr} {H H1 H2 : Hp} (s : Same H H1) (f : H p = none) (b : But p H1 H2) : Same H H2 := fun c o e => b.ap (ne_of_none e f) (s c o e)
theorem But.upd {p : Addr} {H : Hp} (o : HO) : But p H (upd H p o) := fun b _ n h => by rw [upd_ne n]; exact SamO.of h
theorem But.new {p q : Addr} {H : Hp} {o : HO} (h : H q = none) : But p H (L2.upd H q o) := fun b u n e => by rw [upd_ne (ne_of_none e h)]; exact SamO.of e
theorem Same.new {q : Addr} {H : Hp} {o : HO} (h : H q = none) : Same H (L2.upd H q o) := fun b u e => by rw [upd_ne (ne_of_none e h)]; exact SamO.of e
theorem Same.but {p : Addr} {H H' : Hp} (s : Same H H') : But p H H' := fun b o _ e => s b o e
theorem Hand.new {H : Hp} {p q : Addr} {o : HO} (h : Hand H p) (n : H q = none) : Hand (L2.upd H q o) p := by
  obtain ⟨d, e, h, r⟩ := h
  exact ⟨d, e, by rw [upd_ne (ne_of_none h n)]; exact h, r⟩
theorem Hand.same {H H' : Hp} {p : Addr} (h : Hand H p) (s : Same H H') : Hand H' p := by
  obtain ⟨d, e, h, r⟩ := h
  exact ⟨d, e, s _ _ h, r⟩
theorem But.lst {p a : Addr} {H H' : Hp} {xs : List V} (s : But p H H') (n : a ≠ p) (h : H a = some (.lst xs)) : H' a = some (.lst xs) := s _ _ n h
theorem But.seq {K : PySem.W.Frag} {p a : Addr} {H H' : Hp} {xs : List V} (s : But p H H') (n : a ≠ p) (h : SqL K H a xs) : SqL K H' a xs := by
  rcases h with (h | ⟨o, h⟩) | h
  · exact .inl (.inl (s _ _ n h))
  · exact .inl (.inr ⟨o, s _ _ n h⟩)
  · exact .inr h
theorem free_of_but {p : Addr} {H H' : Hp} {l : Addr} (s : But p H H') (hp : H' p ≠ none) (h : H' l = none) : H l = none := by
  cases q : H l with
  | none => rfl
  | some o =>
    by_cases e : l = p
    · subst e; exact absurd h hp
    · obtain ⟨u, z⟩ := (s l o e q).some; rw [z] at h; cases h
theorem Hand.ne {H : Hp} {p q : Addr} (h : Hand H p) (n : H q = none) : q ≠ p := by
  obtain ⟨d, e, h, _⟩ := h
  exact (ne_of_none h n).symm
/-- a store at an address that was free in H -/
theorem But.at {p D : Addr} {H H' : Hp} {o : HO} (s : But p H H') (f : H D = none) : But p H (L2.upd H' D o) := fun b u n e => by
  rw [upd_ne (ne_of_none e f)]; exact s b u n e
theorem Hand.at {H : Hp} {p D : Addr} {o : HO} (h : Hand H p) (n : D ≠ p) : Hand (L2.upd H D o) p := by
  obtain ⟨d, e, h, r⟩ := h
  exact ⟨d, e, by rw [upd_ne n.symm]; exact h, r⟩
theorem Hand.some {H : Hp} {p : Addr} (h : Hand H p) : H p ≠ none := by
  obtain ⟨d, e, h, _⟩ := h
  rw [h]; simp
end L2

set_option Elab.async false
set_option linter.all false
set_option maxRecDepth 100000
set_option maxHeartbeats 4000000
namespace L2
open PySem PySem.Spec PyProof.Rows
abbrev intsD (ns : List Int) : PyData := .list (ns.map PyData.int)
abbrev prD (p : Int × Int) : PyData := .tuple [.int p.1, .int p.2]
abbrev prsD (ps : List (Int × Int)) : PyData := .list (ps.map prD)
section
variable {K : PySem.W.Frag} {H : Hp}
theorem dpInts (ns : List Int) : DpAll K H (ns.map V.int) (ns.map PyData.int) := by
  induction ns with
  | nil => exact .nil
  | cons n r ih => exact .cons (.int n) ih
theorem dpInts' {a : Addr} {ns : List Int} (h : SqL K H a (ns.map V.int)) : Dp K H (.ref a) (intsD ns) := .lst h (dpInts ns)
mutual
theorem Dp.same {H' : Hp} (s : Same H H') : ∀ (d : PyData) (v : V), Dp K H v d → Dp K H' v d
  | .none, _, h => by cases h; exact .non
  | .bool b, _, h => by cases h; exact .bl b
  | .int i, _, h => by cases h; exact .int i
  | .str x, _, h => by cases h; exact .str x
  | .list ds, _, h => by
    cases h with
    | lst hs ha => exact .lst (s.seq hs) (DpAll.same s ds _ ha)
  | .tuple ds, _, h => by
    cases h with
    | tup hs ha =>
      refine .tup ?_ (DpAll.same s ds _ ha)
      rcases hs with (h | ⟨o, h⟩) | h
      · exact .inl (.inl (s _ _ h))
      · exact .inl (.inr ⟨o, s _ _ h⟩)
      · exact .inr h
  | .dict _, _, h => by cases h
theorem DpAll.same {H' : Hp} (s : Same H H') : ∀ (ds : List PyData) (vs : List V), DpAll K H vs ds → DpAll K H' vs ds
  | [], _, h => by cases h; exact .nil
  | d :: ds, _, h => by
    cases h with
    | cons h1 h2 => exact .cons (Dp.same s d _ h1) (DpAll.same s ds _ h2)
end
end
theorem canLayInts (ns : List Int) : PyData.canLayAll0 (ns.map PyData.int) = true := by
  induction ns with
  | nil => rfl
  | cons n r ih =>
    rw [List.map_cons]
    simp [PyData.canLayAll0, PyData.canLay0, ih]
theorem depthInts (ns : List Int) : PyData.depthAll (ns.map PyData.int) ≤ 1 := by
  induction ns with
  | nil => simp [PyData.depthAll]
  | cons n r ih =>
    rw [List.map_cons]
    simp only [PyData.depthAll, PyData.depth]
    omega
theorem shapedInts (ns : List Int) : SeqAt.shaped (intsD ns) = true := by
  have h1 := canLayInts ns
  have h2 := depthInts ns
  unfold SeqAt.shaped
  simp only [PyData.canLay0, PyData.depth, h1, Bool.true_and]
  exact decide_eq_true (by omega)
theorem eqvAllInts : ∀ (ns ms : List Int), PyData.eqvAll (ns.map PyData.int) (ms.map PyData.int) = decide (ns = ms)
  | [], [] => by simp [PyData.eqvAll]
  | [], _ :: _ => by simp [PyData.eqvAll]
  | _ :: _, [] => by simp [PyData.eqvAll]
  | n :: ns, m :: ms => by
    rw [List.map_cons, List.map_cons]
    simp only [PyData.eqvAll, PyData.eqv, eqvAllInts ns ms, List.cons.injEq, Bool.decide_and]
    rfl
theorem eqvInts (ns ms : List Int) : PyData.eqv (intsD ns) (intsD ms) = decide (ns = ms) := by
  simp only [PyData.eqv]; exact eqvAllInts ns ms
section
variable {X : Cx}
def rEqLI (K : PySem.W.Frag) : R2 := fun x y H Q => ∃ (a b : Addr) (ns ms : List Int), x = .ref a ∧ y = .ref b ∧ SqL K H a (ns.map V.int) ∧ SqL K H b (ms.map V.int) ∧ Q (.bl (decide (ns = ms))) H
def rNeLI (K : PySem.W.Frag) : R2 := fun x y H Q => ∃ (a b : Addr) (ns ms : List Int), x = .ref a ∧ y = .ref b ∧ SqL K H a (ns.map V.int) ∧ SqL K H b (ms.map V.int) ∧ Q (.bl (!decide (ns = ms))) H
theorem op_eqLI (hu : X.A.units + 64 < cLine) : OpR X (compareOp .Eq) (rEqLI X.K) := by
  intro pins s σ H x y v u Q I rx ry h
  obtain ⟨a, b, ns, ms, rfl, rfl, h1, h2, q⟩ := h
  exact op_eqD hu pins s σ H _ _ v u Q I rx ry ⟨_, _, dpInts' h1, dpInts' h2, shapedInts _, shapedInts _, by rw [eqvInts]; exact q⟩
theorem op_neLI (hu : X.A.units + 64 < cLine) : OpR X (compareOp .NotEq) (rNeLI X.K) := by
  intro pins s σ H x y v u Q I rx ry h
  obtain ⟨a, b, ns, ms, rfl, rfl, h1, h2, q⟩ := h
  exact op_neD hu pins s σ H _ _ v u Q I rx ry ⟨_, _, dpInts' h1, dpInts' h2, shapedInts _, shapedInts _, by rw [eqvInts]; exact q⟩
end
/-- a slice of a list of ints -/
def cutI (ns : List Int) (lo hi : Option Int) : List Int := (ns.drop (HT.sIx ns.length 0 lo)).take (HT.sIx ns.length ns.length hi - HT.sIx ns.length 0 lo)
theorem cut_ints (ns : List Int) (lo hi : Option Int) : cutV (ns.map V.int) lo hi = (cutI ns lo hi).map V.int := by
  unfold cutV cutI
  rw [List.length_map, List.map_take, List.map_drop]
theorem cutI_mem {ns : List Int} {lo hi : Option Int} {n : Int} (h : n ∈ cutI ns lo hi) : n ∈ ns := List.mem_of_mem_drop (List.mem_of_mem_take h)
theorem cutI_to (ns : List Int) (k : Int) (h0 : 0 ≤ k) : cutI ns none (some k) = ns.take k.toNat := by
  unfold cutI HT.sIx
  dsimp only
  rw [if_neg (by omega), Nat.sub_zero, List.drop_zero]
  rcases Nat.le_total k.toNat ns.length with h | h
  · rw [Nat.min_eq_left h]
  · rw [Nat.min_eq_right h, List.take_of_length_le (Nat.le_refl _), List.take_of_length_le h]
theorem cutI_from_to (ns : List Int) (i k : Int) (h0 : 0 ≤ i) (h1 : 0 ≤ k) (h2 : i ≤ k) (h3 : k ≤ ns.length) : cutI ns (some i) (some k) = (ns.drop i.toNat).take (k.toNat - i.toNat) := by
  unfold cutI HT.sIx
  dsimp only
  rw [if_neg (by omega), if_neg (by omega), Nat.min_eq_left (by omega), Nat.min_eq_left (by omega)]
theorem line1000 {n : Nat} (h : n ≤ 1000) : n ≤ sizeLine := Nat.le_of_lt (small1000 h)
theorem at_pick {ns : List Int} {i : Int} (h0 : 0 ≤ i) (h1 : i < ns.length) : ∃ v, v ∈ ns ∧ atI (ns.map V.int) i = some (V.int v) := by
  have hl : i.toNat < ns.length := by omega
  refine ⟨ns[i.toNat], List.getElem_mem hl, at_of (j := i.toNat) (by omega) ?_⟩
  rw [List.getElem?_map, List.getElem?_eq_getElem hl]
  rfl
theorem ix_nat {n : Nat} {i : Int} (h0 : 0 ≤ i) (h1 : i < n) : ixN n i = some i.toNat := by
  unfold ixN
  rw [if_pos h0, if_pos h1]
theorem seqJ {t rest : TS} {D : Ends} {σ : St} {H : Hp} (J : St → Hp → Prop) (h1 : (∀ σ' H', J σ' H' → rest D σ' H') → t { D with nx := rest D } σ H) (h2 : ∀ σ' H', J σ' H' → rest D σ' H') : tSeq t rest D σ H := h1 h2
theorem at_int {ns : List Int} {i : Int} (h0 : 0 ≤ i) (h1 : i < ns.length) : atI (ns.map V.int) i = some (V.int (ns.getD i.toNat 0)) := by
  have hl : i.toNat < ns.length := by omega
  refine at_of (j := i.toNat) (by omega) ?_
  rw [List.getElem?_map, List.getElem?_eq_getElem hl]
  simp [List.getD_eq_getElem?_getD, List.getElem?_eq_getElem hl]
end L2

set_option Elab.async false
set_option linter.all false
set_option maxRecDepth 100000
set_option maxHeartbeats 4000000
namespace L2
open PySem PySem.Spec PyProof.Rows
def minL : List Int → Int
  | [] => 0
  | [a] => a
  | a :: b :: r => if minL (b :: r) < a then minL (b :: r) else a
theorem minL_spec : ∀ {l : List Int}, l ≠ [] → minL l ∈ l ∧ ∀ y ∈ l, minL l ≤ y
  | [], h => absurd rfl h
  | [a], _ => ⟨List.mem_singleton.mpr rfl, fun y hy => by rw [List.mem_singleton.mp hy]; exact Int.le_refl _⟩
  | a :: b :: r, _ => by
    have ih := minL_spec (l := b :: r) (by simp)
    have e : minL (a :: b :: r) = if minL (b :: r) < a then minL (b :: r) else a := rfl
    by_cases h : minL (b :: r) < a
    · rw [if_pos h] at e
      rw [e]
      refine ⟨List.mem_cons_of_mem _ ih.1, fun y hy => ?_⟩
      rcases List.mem_cons.mp hy with z | z
      · omega
      · exact ih.2 y z
    · rw [if_neg h] at e
      rw [e]
      refine ⟨List.mem_cons_self, fun y hy => ?_⟩
      rcases List.mem_cons.mp hy with z | z
      · omega
      · have := ih.2 y z; omega
theorem minL_uniq {l : List Int} {m : Int} (h1 : m ∈ l) (h2 : ∀ y ∈ l, m ≤ y) : minL l = m := by
  have hne : l ≠ [] := fun e => by rw [e] at h1; cases h1
  have := minL_spec hne
  have a := this.2 m h1
  have b := h2 _ this.1
  omega
/-- the first place of n in a list -/
def fst (n : Int) : List Int → Nat
  | [] => 0
  | a :: r => if a = n then 0 else fst n r + 1
theorem fst_at {n : Int} : ∀ {l : List Int}, n ∈ l → l[fst n l]? = some n ∧ fst n l < l.length ∧ ∀ (m : Nat) (z : Int), m < fst n l → l[m]? = some z → z ≠ n
  | [], h => nomatch h
  | a :: r, h => by
    by_cases e : a = n
    · have ef : fst n (a :: r) = 0 := if_pos e
      rw [ef]
      exact ⟨by simp [e], by simp, fun m z hm => absurd hm (by omega)⟩
    · have ef : fst n (a :: r) = fst n r + 1 := if_neg e
      have h' : n ∈ r := by
        rcases List.mem_cons.mp h with z | z
        · exact absurd z.symm e
        · exact z
      obtain ⟨h1, h2, h3⟩ := fst_at h'
      rw [ef]
      refine ⟨by simpa using h1, by simp; omega, fun m z hm q => ?_⟩
      cases m with
      | zero =>
        have : a = z := by simpa using q
        rw [← this]; exact e
      | succ m => exact h3 m z (by omega) (by simpa using q)
/-- a stretch -/
def seg (ns : List Int) (b e : Int) : List Int := (ns.drop b.toNat).take (e.toNat - b.toNat)
/-- begin and end of a stretch of so many -/
structure IsSt (n : Nat) (b e : Int) : Prop where
  b0 : 0 ≤ b
  be : b < e
  en : e ≤ n
theorem seg_len {ns : List Int} {b e : Int} (h : IsSt ns.length b e) : (seg ns b e).length = e.toNat - b.toNat := by
  have := h.b0; have := h.be; have := h.en
  unfold seg
  rw [List.length_take, List.length_drop]
  omega
theorem seg_ne {ns : List Int} {b e : Int} (h : IsSt ns.length b e) : seg ns b e ≠ [] := fun z => by
  have := seg_len h
  rw [z] at this
  have := h.b0; have := h.be
  simp at *
  omega
theorem seg_cut {ns : List Int} {b e : Int} (h : IsSt ns.length b e) : cutI ns (some b) (some e) = seg ns b e := by
  have := h.b0; have := h.be; have := h.en
  exact cutI_from_to ns b e (by omega) (by omega) (by omega) (by omega)
theorem seg_get {ns : List Int} {b e : Int} (h0 : 0 ≤ b) {j : Nat} (hj : j < e.toNat - b.toNat) : (seg ns b e)[j]? = ns[b.toNat + j]? := by
  unfold seg
  rw [List.getElem?_take, if_pos hj, List.getElem?_drop]
/-- the first place of the least, within the stretch -/
def pl (l : List Int) : Nat := fst (minL l) l
end L2

set_option Elab.async false
set_option linter.all false
set_option maxRecDepth 100000
set_option maxHeartbeats 4000000
namespace L2
open PySem PySem.Spec PyProof.Rows
theorem get_ints {ns : List Int} {k : Nat} {x : V} (h : (ns.map V.int)[k]? = some x) : ∃ n, ns[k]? = some n ∧ x = .int n := by
  rw [List.getElem?_map] at h
  cases e : ns[k]? with
  | none => rw [e] at h; cases h
  | some n => rw [e] at h; exact ⟨n, rfl, (Option.some.inj h).symm⟩
end L2

set_option Elab.async false
set_option linter.all false
set_option maxRecDepth 100000
set_option maxHeartbeats 4000000
namespace L2
open PySem PySem.Spec PyProof.Rows
section
variable {X : Cx}
end
end L2

set_option Elab.async false
set_option linter.all false
set_option maxRecDepth 100000
set_option maxHeartbeats 4000000
namespace L2
open PySem PySem.Spec PyProof.Rows
section
variable {prog : Program} {w : World} {A : Around} {E : Value → Shared → Prop} {s : Shared}
end
section
variable {prog : Program} {w : World} {A : Around} {E : Value → Shared → Prop} {s : Shared}
end
end L2

set_option Elab.async false
set_option linter.all false
set_option maxRecDepth 100000
set_option maxHeartbeats 4000000
namespace L2
open PySem PySem.Spec PyProof.Rows
abbrev vl (ns : List Int) (i : Nat) : Int := ns.getD i 0
structure IsReach (ns : List Int) (i b e : Nat) : Prop where
  bi : b ≤ i
  ie : i < e
  en : e ≤ ns.length
  bg : ∀ j, b ≤ j → j < i → vl ns i < vl ns j
  b0 : b = 0 ∨ vl ns (b - 1) ≤ vl ns i
  eg : ∀ j, i ≤ j → j < e → vl ns i ≤ vl ns j
  e0 : e = ns.length ∨ vl ns e < vl ns i
theorem IsReach.uniq {ns : List Int} {i b e b' e' : Nat} (h : IsReach ns i b e) (h' : IsReach ns i b' e') : b = b' ∧ e = e' := by
  constructor
  · rcases Nat.lt_trichotomy b b' with z | z | z
    · rcases h'.b0 with q | q
      · omega
      · have := h.bg (b' - 1) (by omega) (by have := h'.bi; omega)
        omega
    · exact z
    · rcases h.b0 with q | q
      · omega
      · have := h'.bg (b - 1) (by omega) (by have := h.bi; omega)
        omega
  · rcases Nat.lt_trichotomy e e' with z | z | z
    · rcases h.e0 with q | q
      · have := h'.en; omega
      · have := h'.eg e (by have := h.ie; omega) z
        omega
    · exact z
    · rcases h'.e0 with q | q
      · have := h.en; omega
      · have := h.eg e' (by have := h'.ie; omega) z
        omega
/-- the reaches of all places -/
def AreReaches (ns : List Int) (ps : List (Int × Int)) : Prop := ps.length = ns.length ∧ ∀ (i : Nat) (p : Int × Int), ps[i]? = some p → ∃ b e : Nat, p = ((b : Int), (e : Int)) ∧ IsReach ns i b e
theorem AreReaches.uniq {ns : List Int} {ps qs : List (Int × Int)} (h : AreReaches ns ps) (h' : AreReaches ns qs) : ps = qs := by
  apply List.ext_getElem?
  intro i
  by_cases hi : i < ns.length
  · have hp : ps[i]? = some (ps[i]'(by rw [h.1]; exact hi)) := List.getElem?_eq_getElem _
    have hq : qs[i]? = some (qs[i]'(by rw [h'.1]; exact hi)) := List.getElem?_eq_getElem _
    obtain ⟨b, e, e1, r⟩ := h.2 i _ hp
    obtain ⟨b', e', e1', r'⟩ := h'.2 i _ hq
    obtain ⟨z1, z2⟩ := r.uniq r'
    rw [hp, hq, e1, e1', z1, z2]
  · rw [List.getElem?_eq_none (by rw [h.1]; omega), List.getElem?_eq_none (by rw [h'.1]; omega)]
structure Stk (ns : List Int) (m : Nat) (top : Nat) (ws es : List Nat) : Prop where
  lenE : es.length = ns.length
  mn : m ≤ ns.length
  inc : ws.Pairwise (· < ·)
  lt : ∀ j ∈ ws, j < m
  gone : ∀ j, j < m → j ∉ ws → ∃ k, es[j]? = some k ∧ j < k ∧ k < top ∧ vl ns k < vl ns j ∧ ∀ i, j ≤ i → i < k → vl ns j ≤ vl ns i
  wait : ∀ j ∈ ws, es[j]? = some ns.length ∧ ∀ i, j ≤ i → i < m → vl ns j ≤ vl ns i
  rest : ∀ j, m ≤ j → j < ns.length → es[j]? = some ns.length
theorem Stk.start (ns : List Int) : Stk ns 0 0 [] (List.replicate ns.length ns.length) where
  lenE := List.length_replicate
  mn := Nat.zero_le _
  inc := .nil
  lt := fun j hj => nomatch hj
  gone := fun j hj => absurd hj (Nat.not_lt_zero _)
  wait := fun j hj => nomatch hj
  rest := fun j _ hj => by rw [List.getElem?_replicate, if_pos hj]
theorem Stk.mono {ns : List Int} {m t t' : Nat} {ws es : List Nat} (h : Stk ns m t ws es) (ht : t ≤ t') : Stk ns m t' ws es :=
  ⟨h.lenE, h.mn, h.inc, h.lt, fun j hj hn => by obtain ⟨k, a, b, c, d⟩ := h.gone j hj hn; exact ⟨k, a, b, by omega, d⟩, h.wait, h.rest⟩
/-- a waiting place that is greater than the number at m goes -/
theorem Stk.pop {ns : List Int} {m w : Nat} {ws es : List Nat} (h : Stk ns m (m + 1) (ws ++ [w]) es) (hm : m < ns.length) (hv : vl ns m < vl ns w) : Stk ns m (m + 1) ws (es.set w m) := by
  have hinc := List.pairwise_append.mp h.inc
  have hwm := h.lt w (by simp)
  have hwE : w < es.length := by rw [h.lenE]; omega
  refine ⟨by rw [List.length_set]; exact h.lenE, h.mn, hinc.1, fun j hj => h.lt j (by simp [hj]), fun j hj hn => ?_, fun j hj => ?_, fun j hj hl => ?_⟩
  · by_cases e : j = w
    · subst e
      refine ⟨m, by rw [List.getElem?_set_self hwE], hj, Nat.lt_succ_self _, hv, (h.wait j (by simp)).2⟩
    · obtain ⟨k, a, r⟩ := h.gone j hj (by simp [hn, e])
      exact ⟨k, by rw [List.getElem?_set_ne (fun z => e z.symm)]; exact a, r⟩
  · have hlt := hinc.2.2 j hj w (by simp)
    obtain ⟨a, b⟩ := h.wait j (by simp [hj])
    exact ⟨by rw [List.getElem?_set_ne (by omega)]; exact a, b⟩
  · rw [List.getElem?_set_ne (by omega)]; exact h.rest j hj hl
/-- m waits -/
theorem Stk.push {ns : List Int} {m : Nat} {ws es : List Nat} (h : Stk ns m (m + 1) ws es) (hm : m < ns.length) (hv : ∀ w, ws.getLast? = some w → vl ns w ≤ vl ns m) : Stk ns (m + 1) (m + 1) (ws ++ [m]) es := by
  refine ⟨h.lenE, hm, ?_, fun j hj => ?_, fun j hj hn => ?_, fun j hj => ?_, fun j hj hl => h.rest j (by omega) hl⟩
  · exact List.pairwise_append.mpr ⟨h.inc, List.pairwise_singleton _ _, fun a ha b hb => by
      have h1 := h.lt a ha
      have h2 : b = m := (by simpa using hb)
      omega⟩
  · rcases List.mem_append.mp hj with z | z
    · have := h.lt j z; omega
    · have : j = m := by simpa using z
      omega
  · have hn' : j ∉ ws ∧ j ≠ m := by simpa using hn
    exact h.gone j (by omega) hn'.1
  · rcases List.mem_append.mp hj with z | z
    · obtain ⟨a, b⟩ := h.wait j z
      refine ⟨a, fun i h1 h2 => ?_⟩
      rcases Nat.lt_succ_iff_lt_or_eq.mp h2 with q | q
      · exact b i h1 q
      · subst q
        cases e : ws.getLast? with
        | none => rw [List.getLast?_eq_none_iff.mp e] at z; cases z
        | some w =>
          have hw := hv w e
          obtain ⟨ys, hys⟩ := List.getLast?_eq_some_iff.mp e
          have hjw : j ≤ w := by
            rw [hys] at z
            rcases List.mem_append.mp z with q | q
            · have hi := h.inc
              rw [hys] at hi
              have := (List.pairwise_append.mp hi).2.2 j q w (by simp)
              omega
            · have : j = w := by simpa using q
              omega
          have hwm := h.lt w (by rw [hys]; simp)
          have := b w hjw hwm
          omega
    · have : j = m := by simpa using z
      subst this
      exact ⟨h.rest j (Nat.le_refl _) hm, fun i h1 h2 => by
        have e : i = j := (by omega)
        rw [e]; exact Int.le_refl _⟩
/-- the begins so far -/
def Begs (ns : List Int) (bs : List Nat) : Prop := ∀ (i b : Nat), bs[i]? = some b → b ≤ i ∧ (∀ j, b ≤ j → j < i → vl ns i < vl ns j) ∧ (b = 0 ∨ vl ns (b - 1) ≤ vl ns i)
theorem Begs.snoc {ns : List Int} {bs : List Nat} {b : Nat} (h : Begs ns bs) (hb : b ≤ bs.length ∧ (∀ j, b ≤ j → j < bs.length → vl ns bs.length < vl ns j) ∧ (b = 0 ∨ vl ns (b - 1) ≤ vl ns bs.length)) : Begs ns (bs ++ [b]) := by
  intro i c hc
  by_cases hi : i < bs.length
  · rw [List.getElem?_append_left hi] at hc
    exact h i c hc
  · rw [List.getElem?_append_right (by omega)] at hc
    have hi' : i - bs.length = 0 := by
      rcases Nat.eq_zero_or_pos (i - bs.length) with z | z
      · exact z
      · rw [List.getElem?_eq_none (by simp; omega)] at hc; cases hc
    rw [hi'] at hc
    have : b = c := by simpa using hc
    have hi2 : i = bs.length := by omega
    subst this hi2
    exact hb
def PrAt (H : Hp) (ts : List Addr) (ps : List (Int × Int)) : Prop := ts.length = ps.length ∧ ∀ (j : Nat) (t : Addr) (p : Int × Int), ts[j]? = some t → ps[j]? = some p → H t = some (.tup [.int p.1, .int p.2])
theorem PrAt.same {H H' : Hp} {ts : List Addr} {ps : List (Int × Int)} (h : PrAt H ts ps) (s : Same H H') : PrAt H' ts ps := ⟨h.1, fun j t p h1 h2 => s _ _ (h.2 j t p h1 h2)⟩
theorem PrAt.at {H : Hp} {ts : List Addr} {ps : List (Int × Int)} {D : Addr} {xs ys : List V} (h : PrAt H ts ps) (hD : H D = some (.lst xs)) : PrAt (L2.upd H D (.lst ys)) ts ps := ⟨h.1, fun j t p h1 h2 => by
  have c := h.2 j t p h1 h2
  rw [upd_ne fun z => by rw [z, hD] at c; cases c]
  exact c⟩
theorem PrAt.but {H H' : Hp} {p : Addr} {ts : List Addr} {ps : List (Int × Int)} (h : PrAt H ts ps) (k : But p H H') (hh : Hand H p) : PrAt H' ts ps := ⟨h.1, fun j t q h1 h2 => by
  have c := h.2 j t q h1 h2
  refine k _ _ (fun z => ?_) c
  obtain ⟨d, e', hp, _⟩ := hh
  rw [z, hp] at c; cases c⟩
theorem PrAt.dpAll {K : PySem.W.Frag} {H : Hp} : ∀ {ts : List Addr} {ps : List (Int × Int)}, PrAt H ts ps → DpAll K H (ts.map V.ref) (ps.map prD)
  | [], [], _ => .nil
  | [], _ :: _, h => by have := h.1; simp at this
  | _ :: _, [], h => by have := h.1; simp at this
  | t :: ts, p :: ps, h => by
    have c := h.2 0 t p rfl rfl
    refine .cons (.tup (SqT.of c) (.cons (.int _) (.cons (.int _) .nil))) (PrAt.dpAll (ts := ts) (ps := ps) ⟨by have := h.1; simpa using this, fun j t' p' h1 h2 => h.2 (j + 1) t' p' (by simpa using h1) (by simpa using h2)⟩)
theorem PrAt.dp {K : PySem.W.Frag} {H : Hp} {a : Addr} {ts : List Addr} {ps : List (Int × Int)} (h : PrAt H ts ps) (ha : SqL K H a (ts.map V.ref)) : Dp K H (.ref a) (prsD ps) := .lst ha h.dpAll
theorem Same.at {D : Addr} {H H' : Hp} {o : HO} (s : Same H H') (f : H D = none) : Same H (L2.upd H' D o) := fun b u e => by
  rw [upd_ne (ne_of_none e f)]; exact s b u e
theorem at_vl {ns : List Int} {i : Nat} (h : i < ns.length) : atI (ns.map V.int) ((i : Nat) : Int) = some (V.int (vl ns i)) := by
  have := at_int (ns := ns) (i := (i : Int)) (by omega) (by omega)
  simpa using this
theorem get_vl {ns : List Int} {i : Nat} {n : Int} (h : ns[i]? = some n) : n = vl ns i := by
  unfold vl
  rw [List.getD_eq_getElem?_getD, h]
  rfl
end L2

set_option Elab.async false
set_option linter.all false
set_option maxRecDepth 100000
set_option maxHeartbeats 4000000
namespace L2
open PySem PySem.Spec PyProof.Rows
def sumN : Nat → (Nat → Int) → Int
  | 0, _ => 0
  | n + 1, g => sumN n g + g n
end L2

set_option Elab.async false
set_option linter.all false
set_option maxRecDepth 100000
set_option maxHeartbeats 4000000
namespace L2
open PySem PySem.Spec PyProof.Rows
def dd (ns : List Int) : Nat := (PyProof.Rows.firstMet (fun i => ns.getD i 0) ns.length).length
section
variable {X : Cx}
end
theorem vl_map {f : Int → Int} {ns : List Int} {i : Nat} (h : i < ns.length) : vl (ns.map f) i = f (vl ns i) := by
  unfold vl
  rw [List.getD_eq_getElem?_getD, List.getD_eq_getElem?_getD, List.getElem?_map, List.getElem?_eq_getElem h]
  rfl
theorem IsReach.map {f : Int → Int} (hf : ∀ x y, f x < f y ↔ x < y) {ns : List Int} {i b e : Nat} (h : IsReach ns i b e) : IsReach (ns.map f) i b e := by
  have hie := h.ie; have hen := h.en; have hbi := h.bi
  have hle : ∀ x y, f x ≤ f y ↔ x ≤ y := fun x y => by
    have := hf y x
    constructor <;> intro q <;> omega
  refine ⟨hbi, hie, by rw [List.length_map]; exact hen, fun j h1 h2 => ?_, ?_, fun j h1 h2 => ?_, ?_⟩
  · rw [vl_map (by omega), vl_map (by omega)]; exact (hf _ _).mpr (h.bg j h1 h2)
  · rcases h.b0 with q | q
    · exact .inl q
    · right; rw [vl_map (by omega), vl_map (by omega)]; exact (hle _ _).mpr q
  · rw [vl_map (by omega), vl_map (by omega)]; exact (hle _ _).mpr (h.eg j h1 h2)
  · rcases h.e0 with q | q
    · left; rw [List.length_map]; exact q
    · by_cases z : e = ns.length
      · left; rw [List.length_map]; exact z
      · right; rw [vl_map (by omega), vl_map (by omega)]; exact (hf _ _).mpr q
theorem AreReaches.map {f : Int → Int} (hf : ∀ x y, f x < f y ↔ x < y) {ns : List Int} {ps : List (Int × Int)} (h : AreReaches ns ps) : AreReaches (ns.map f) ps :=
  ⟨by rw [List.length_map]; exact h.1, fun i p hp => let ⟨b, e, e1, r⟩ := h.2 i p hp; ⟨b, e, e1, r.map hf⟩⟩
theorem vl_seg {ns : List Int} {b e : Nat} {j : Nat} (h : j < e - b) : vl (seg ns (b : Int) (e : Int)) j = vl ns (b + j) := by
  unfold vl
  rw [List.getD_eq_getElem?_getD, List.getD_eq_getElem?_getD, seg_get (by omega) (by omega)]
  have : (b : Int).toNat + j = b + j := by omega
  rw [this]
end L2

set_option Elab.async false
set_option linter.all false
set_option maxRecDepth 100000
set_option maxHeartbeats 4000000
namespace L2
open PySem PySem.Spec PyProof.Rows
theorem PrAt.snoc {H : Hp} {ts : List Addr} {ps : List (Int × Int)} {t : Addr} {p : Int × Int} (h : PrAt H ts ps) (ht : H t = some (.tup [.int p.1, .int p.2])) : PrAt H (ts ++ [t]) (ps ++ [p]) := by
  refine ⟨by rw [List.length_append, List.length_append, h.1]; rfl, fun j t' p' h1 h2 => ?_⟩
  rcases Nat.lt_trichotomy j ts.length with z | z | z
  · rw [List.getElem?_append_left z] at h1
    rw [List.getElem?_append_left (by rw [← h.1]; exact z)] at h2
    exact h.2 j t' p' h1 h2
  · subst z
    rw [List.getElem?_append_right (Nat.le_refl _), Nat.sub_self] at h1
    rw [h.1, List.getElem?_append_right (Nat.le_refl _), Nat.sub_self] at h2
    have e1 : t = t' := by simpa using h1
    have e2 : p = p' := by simpa using h2
    subst e1 e2
    exact ht
  · rw [List.getElem?_eq_none (by rw [List.length_append, List.length_singleton]; omega)] at h1
    cases h1
theorem get_refs {ts : List Addr} {k : Nat} {x : V} (h : (ts.map V.ref)[k]? = some x) : ∃ t, ts[k]? = some t ∧ x = .ref t := by
  rw [List.getElem?_map] at h
  cases e : ts[k]? with
  | none => rw [e] at h; cases h
  | some t => rw [e] at h; exact ⟨t, rfl, (Option.some.inj h).symm⟩
end L2

set_option Elab.async false
set_option linter.all false
set_option maxRecDepth 100000
set_option maxHeartbeats 4000000
namespace L2
open PySem PySem.Spec PyProof.Rows
def sumSt (ns : List Int) (g : List Int → Int) : Int := sumN ns.length fun b => sumN (ns.length - b) fun j => g (seg ns (b : Int) ((b + j + 1 : Nat) : Int))
theorem least_at {ns : List Int} {b e : Nat} (h : b < e) (he : e ≤ ns.length) : vl ns (b + pl (seg ns (b : Int) (e : Int))) = minL (seg ns (b : Int) (e : Int)) := by
  have st : IsSt ns.length (b : Int) (e : Int) := ⟨by omega, by omega, by omega⟩
  obtain ⟨f1, f2, f3⟩ := fst_at (minL_spec (seg_ne st)).1
  have sl := seg_len st
  have hp : pl (seg ns (b : Int) (e : Int)) < e - b := by unfold pl; omega
  rw [← vl_seg (e := e) hp]
  unfold vl pl
  rw [List.getD_eq_getElem?_getD, f1]; rfl
end L2

set_option Elab.async false
set_option linter.all false
set_option maxRecDepth 100000
set_option maxHeartbeats 4000000
namespace L2
open PySem PySem.Spec PyProof.Rows
end L2

set_option Elab.async false
set_option linter.all false
set_option maxRecDepth 100000
set_option maxHeartbeats 4000000
namespace L2
open PySem PySem.Spec PyProof.Rows
section
variable {X : Cx} {tg : Expr}
end
end L2

set_option Elab.async false
set_option linter.all false
set_option maxRecDepth 100000
set_option maxHeartbeats 4000000
namespace L2
open PySem PySem.Spec PyProof.Rows

/-- the code object that runs: all that a generator expression wants of it -/
def CodeK (P : Program) (K : PySem.W.Frag) (mg : Str → Option Value) (cdv : Value) : Prop :=
  ∃ (c Pt : Addr) (oc : Obj) (vs : Array Value) (file : Str) (tf : Tok) (flags : Int) (tg : Tok) (inF : Bool) (text : Int) (tt : Tok), cdv = .ref c ∧ TabOf P K mg Pt ∧ K.lookup c = some oc ∧ oc.cls = .type "code" ∧ oc.data = .fields vs ∧
    vs.getD 11 .none = .ref Pt ∧ vs[11]? = some (.ref Pt) ∧ vs.getD 18 .none = .str file tf ∧ vs.getD 7 .none = .int flags tg ∧ vs.getD 9 .none = .bool inF ∧ vs.getD 10 .none = .int text tt
section
variable {X : Cx} {pins : List (Addr × Obj)} {σ : St} {H : Hp} {s : Shared}
end
end L2

set_option Elab.async false
set_option linter.all false
set_option maxRecDepth 100000
set_option maxHeartbeats 4000000
namespace L2
open PySem PySem.Spec PyProof.Rows

section
variable {scope : Scope} {cl : List (Str × Addr)} {env : Env} {prog : Program} {w : World} {xa xb : Str}
end

theorem getD_some {vs : Array Value} {i : Nat} {v : Value} (h : vs[i]? = some v) : vs.getD i .none = v := by
  obtain ⟨h1, h2⟩ := Array.getElem?_eq_some_iff.mp h
  simp [Array.getD, h1, h2]
def DefG (P : Program) (K : PySem.W.Frag) (mg : Str → Option Value) (x : Str) (st : Stmt) (ps : List Str) : Prop :=
  ∃ (f : Addr) (fd : FuncData), mg x = some (.ref f) ∧ Fun K x x st f fd ∧ Binds K fd ps [] ∧ CodeK P K mg fd.code
section
variable {P : Program} {w : World} {K : PySem.W.Frag} {mg : Str → Option Value} {base : Heap}
theorem DefG.fn {x : Str} {st : Stmt} {N ps : List Str} {k : Nat} {sp : Sp} (D : DefG P K mg x st ps) (S : FnScope N ps (defScope st)) (len : ∀ vs H Q E, sp vs H Q E → vs.length = ps.length)
    (hbody : ∀ (f : Addr) (cdv : Value) (A : Around) (outer : List Env) (s : Shared) (H : Hp) (vs : List V) (Q : VK) (E : XK), CodeK P K mg cdv → Room k (A.deeper (envOfC x (defScope st) s.heap.objs.size f cdv)) → sp vs H Q E →
      ∃ t, PSs (cxOf CX0 P w K mg base N x (defScope st) f cdv A outer s H E).nox (defBody st) t ∧ t { nx := fun _ H' => Q .non H', rt := Q } (start N vs) H) : Fn P w K mg base (k + 1) x ps sp := by
  obtain ⟨f, fd, hm, F, b, ck⟩ := D
  refine ⟨f, fd, hm, F.kp, b, ?_⟩
  obtain ⟨oc, od, kV, doc, pm, an, cdv, ct, osl, rfl, lk, hcd⟩ := F.ex
  refine fn_of lk hcd S len fun A outer s H vs Q E hr hsp => ?_
  obtain ⟨t, h, q⟩ := hbody f cdv A outer s H vs Q E ck hr hsp
  exact ⟨t, h.nox, q⟩
end
end L2

set_option Elab.async false
set_option linter.all false
set_option maxRecDepth 100000
set_option maxHeartbeats 4000000
namespace L2
open PySem PySem.Spec PyProof.Rows
namespace FF
end FF
section
variable {prog : Program} {w : World} {A : Around} {E : Value → Shared → Prop} {s : Shared}
end
def MFn (P : Program) (w : World) (K : PySem.W.Frag) (mg : Str → Option Value) (base : Heap) (k : Nat) (C : Addr) (m : Str) (ps : List Str) (sp : Sp) : Prop :=
  ∃ (f : Addr) (fd : FuncData), Cls K C ∧ Meth K C m f ∧ Binds K fd ps [] ∧ FnOk P w K mg base CX0 k f fd ps sp
def IFn (P : Program) (w : World) (K : PySem.W.Frag) (mg : Str → Option Value) (base : Heap) (k : Nat) (x : Str) (C : Addr) (ps : List Str) (sp : Sp) : Prop :=
  ∃ (f : Addr) (fd : FuncData), mg x = some (.ref C) ∧ Mk K C f ∧ Binds K fd ps [] ∧ FnOk P w K mg base CX0 k f fd ps sp
def DefM (K : PySem.W.Frag) (C : Addr) (m qual : Str) (st : Stmt) (ps : List Str) : Prop :=
  ∃ (f : Addr) (fd : FuncData), Cls K C ∧ Meth K C m f ∧ Fun K m qual st f fd ∧ Binds K fd ps []
def DefI (K : PySem.W.Frag) (mg : Str → Option Value) (x : Str) (C : Addr) (qual : Str) (st : Stmt) (ps : List Str) : Prop :=
  ∃ (f : Addr) (fd : FuncData), mg x = some (.ref C) ∧ Mk K C f ∧ Fun K "__init__" qual st f fd ∧ Binds K fd ps []
section
variable {P : Program} {w : World} {K : PySem.W.Frag} {mg : Str → Option Value} {base : Heap} {C : Addr}
theorem DefM.fn {m qual : Str} {st : Stmt} {N ps : List Str} {k : Nat} {sp : Sp} (D : DefM K C m qual st ps) (S : FnScope N ps (defScope st)) (len : ∀ vs H Q E, sp vs H Q E → vs.length = ps.length)
    (hbody : ∀ (f : Addr) (cdv : Value) (A : Around) (outer : List Env) (s : Shared) (H : Hp) (vs : List V) (Q : VK) (E : XK), Room k (A.deeper (envOfC qual (defScope st) s.heap.objs.size f cdv)) → sp vs H Q E →
      ∃ t, PSs (cxOf CX0 P w K mg base N qual (defScope st) f cdv A outer s H E).nox (defBody st) t ∧ t { nx := fun _ H' => Q .non H', rt := Q } (start N vs) H) : MFn P w K mg base (k + 1) C m ps sp := by
  obtain ⟨f, fd, c, hm, F, b⟩ := D
  exact ⟨f, fd, c, hm, b, F.ok S len fun cdv A outer s H vs Q E hr h => hbody f cdv A outer s H vs Q E hr h⟩
theorem DefI.fn {x qual : Str} {st : Stmt} {N ps : List Str} {k : Nat} {sp : Sp} (D : DefI K mg x C qual st ps) (S : FnScope N ps (defScope st)) (len : ∀ vs H Q E, sp vs H Q E → vs.length = ps.length)
    (hbody : ∀ (f : Addr) (cdv : Value) (A : Around) (outer : List Env) (s : Shared) (H : Hp) (vs : List V) (Q : VK) (E : XK), Room k (A.deeper (envOfC qual (defScope st) s.heap.objs.size f cdv)) → sp vs H Q E →
      ∃ t, PSs (cxOf CX0 P w K mg base N qual (defScope st) f cdv A outer s H E).nox (defBody st) t ∧ t { nx := fun _ H' => Q .non H', rt := Q } (start N vs) H) : IFn P w K mg base (k + 1) x C ps sp := by
  obtain ⟨f, fd, hm, mk, F, b⟩ := D
  exact ⟨f, fd, hm, mk, b, F.ok S len fun cdv A outer s H vs Q E hr h => hbody f cdv A outer s H vs Q E hr h⟩
end
section
variable {X : Cx} {j k : Nat} {C : Addr} {x m : Str} {ps : List Str} {sp : Sp} {p pos apos : Pos} {o e : Expr} {es : List Expr} {ta : TE} {t : TA}
end
end L2

set_option Elab.async false
set_option linter.all false
set_option maxRecDepth 100000
set_option maxHeartbeats 4000000
namespace L2
open PySem PySem.Spec PyProof.Rows
abbrev mn (ns : List Int) (i j : Nat) : Int := minL (seg ns (i : Int) (j : Int))
theorem mem_segN {ns : List Int} {i j : Nat} {x : Int} (hj : j ≤ ns.length) : x ∈ seg ns (i : Int) (j : Int) ↔ ∃ k, i ≤ k ∧ k < j ∧ x = vl ns k := by
  constructor
  · intro h
    obtain ⟨m, hm⟩ := List.getElem?_of_mem h
    have hl : m < (seg ns (i : Int) (j : Int)).length := (List.getElem?_eq_some_iff.mp hm).1
    have hl2 : m < j - i := by
      unfold seg at hl
      rw [List.length_take, List.length_drop] at hl
      simp only [Int.toNat_natCast] at hl
      omega
    rw [seg_get (by omega) (by simpa using hl2)] at hm
    simp only [Int.toNat_natCast] at hm
    exact ⟨i + m, by omega, by omega, get_vl hm⟩
  · rintro ⟨k, h1, h2, rfl⟩
    have e : (seg ns (i : Int) (j : Int))[k - i]? = some (vl ns k) := by
      rw [seg_get (by omega) (by simp only [Int.toNat_natCast]; omega)]
      simp only [Int.toNat_natCast]
      rw [show i + (k - i) = k by omega, List.getElem?_eq_getElem (show k < ns.length by omega)]
      simp [vl, show k < ns.length by omega]
    exact List.mem_of_getElem? e
theorem segN_ne {ns : List Int} {i j : Nat} (h : i < j) (hj : j ≤ ns.length) : seg ns (i : Int) (j : Int) ≠ [] := seg_ne ⟨by omega, by omega, by omega⟩
end L2

set_option Elab.async false
set_option linter.all false
set_option maxRecDepth 100000
set_option maxHeartbeats 4000000
namespace L2
open PySem PySem.Spec PyProof.Rows
end L2

set_option Elab.async false
set_option linter.all false
set_option maxRecDepth 100000
set_option maxHeartbeats 4000000
namespace L2
open PySem PySem.Spec PyProof.Rows
section
variable {X : Cx}
end
end L2

set_option Elab.async false
set_option linter.all false
set_option maxRecDepth 100000
set_option maxHeartbeats 4000000
namespace L2
open PySem PySem.Spec PyProof.Rows
section
variable {X : Cx}
end
end L2

set_option Elab.async false
set_option linter.all false
set_option maxRecDepth 100000
set_option maxHeartbeats 4000000
namespace L2
open PySem PySem.Spec PyProof.Rows PySem.W PySem.Calls
section
variable {P : Program} {w : World} {H H' : Hp} {h h' : Heap} {a : Addr} {o : HO}
theorem ObjOk.live (x : ObjOk P w H h a o) : ∃ u, h.get? a = some u := by
  cases o with
  | lst xs => obtain ⟨_, _, _, _, e⟩ := x; exact ⟨_, e⟩
  | tup xs => obtain ⟨_, _, _, p⟩ := x; obtain ⟨o, e, _⟩ := p; exact ⟨_, e⟩
  | dK kvs => obtain ⟨_, _, _, _, o, _, _, e, _⟩ := x; exact ⟨_, e⟩
  | dT kvs => obtain ⟨_, _, _, _, o, _, _, e, _⟩ := x; exact ⟨_, e⟩
  | set S n => obtain ⟨o, _, _, _, e, _⟩ := x; exact ⟨_, e⟩
  | ins C dx fs => obtain ⟨_, _, _, e, _⟩ := x; exact ⟨_, e⟩
  | own y => obtain ⟨_, e⟩ := x; exact ⟨_, e⟩
  | xd fs => obtain ⟨_, ⟨_, _, _, e, _⟩, _⟩ := x; exact ⟨_, e⟩
  | rng lo hi => obtain ⟨_, _, _, e⟩ := x; exact ⟨_, e⟩
  | frz ob u => obtain ⟨e, _⟩ := x; exact ⟨_, e⟩
  | tbl ps => exact ⟨_, (show h.get? a = some _ ∧ _ from x).1⟩
  | met f y => exact ⟨_, show h.get? a = some _ from x⟩
  | ext φ => obtain ⟨_, ⟨_, e⟩, _⟩ := x; exact ⟨_, e⟩
theorem HOk.dead (x : HOk P w H h) (e : h.get? a = none) : H a = none := by
  cases q : H a with
  | none => rfl
  | some u => obtain ⟨v, z⟩ := (x a u q).live; rw [e] at z; cases z
end
section
variable {X : Cx} {pins : List (Addr × Obj)} {σ : St} {H N : Hp} {s : Shared} {h' : Heap} {t' : Nat}
theorem Inv.laidMany2 (I : Inv X pins σ H s) (k : ∀ b u, s.heap.get? b = some u → h'.get? b = some u) (hN : ∀ b o, N b = some o → s.heap.get? b = none)
    (new : ∀ b o, N b = some o → ObjOk X.prog X.w (over H N) h' b o) : Inv X pins σ (over H N) { s with heap := h', toks := t' } := by
  have no' : ∀ b u, s.heap.get? b = some u → N b = none := fun b u hb => by
    cases q : N b with
    | none => rfl
    | some o => rw [hN b o q] at hb; cases hb
  have no : ∀ b u, H b = some u → N b = none := fun b u e => by
    obtain ⟨v, z⟩ := (I.hok b u e).live
    exact no' b v z
  have sm : ∀ b u, H b = some u → over H N b = some u := fun b u e => by rw [over_old (no b u e)]; exact e
  refine I.un ⟨fun b u q _ _ _ => k b u q, fun b u q _ _ _ => ⟨u.slots, k b u q⟩, fun b u q n _ => by rw [over_old (no' b u q)]; exact n, fun b u q _ => ⟨u, k b u q⟩,
    fun b xs q => sm b _ q, fun b u xs q => sm b _ q, fun b ps q => ⟨#[], by rw [sm b _ q]; simp⟩⟩ fun b u e => ?_
  cases q : N b with
  | some o =>
    have e' : u = o := Option.some.inj (e.symm.trans (over_new q))
    subst e'
    exact new b u q
  | none =>
    rw [over_old q] at e
    exact (I.hok b u e).stay (fun c v _ r => k c v r) (fun c r => sm c _ r) fun c xs r => sm c _ r
end
section
variable {X : Cx} {pins : List (Addr × Obj)} {σ : St} {H : Hp} {s : Shared}
end


section
variable {prog : Program} {w : World} {A : Around} {E : Value → Shared → Prop} {s : Shared}
end
end L2

set_option Elab.async false
set_option linter.all false
set_option maxRecDepth 100000
set_option maxHeartbeats 4000000
namespace L2
open PySem PySem.Spec PyProof.Rows PySem.W PySem.Calls
section
variable {X : Cx} {e : Expr} {td : TE} {apos cpos : Pos}
end
def cntSt (ns : List Int) (v : Int) : Int := sumSt ns fun s => if minL s = v then 1 else 0
/-- the unlike leasts, rising, with how many stretches have each -/
structure IsBL (ns : List Int) (ps : List (Int × Int)) : Prop where
  rise : ps.Pairwise fun p q => p.1 < q.1
  each : ∀ p ∈ ps, p.1 ∈ ns ∧ p.2 = cntSt ns p.1
  all : ∀ n ∈ ns, ∃ p ∈ ps, p.1 = n
/-- they are just one list -/
theorem IsBL.one {ns : List Int} : ∀ {ps qs : List (Int × Int)}, ps.Pairwise (fun p q => p.1 < q.1) → qs.Pairwise (fun p q => p.1 < q.1) → (∀ p, p ∈ ps ↔ p ∈ qs) → ps = qs := by
  intro ps
  induction ps with
  | nil =>
    intro qs _ _ h
    cases qs with
    | nil => rfl
    | cons q r => exact absurd ((h q).mpr List.mem_cons_self) (by simp)
  | cons p r ih =>
    intro qs h1 h2 h
    cases qs with
    | nil => exact absurd ((h p).mp List.mem_cons_self) (by simp)
    | cons q t =>
      rw [List.pairwise_cons] at h1 h2
      have e : p = q := by
        rcases List.mem_cons.mp ((h p).mp List.mem_cons_self) with z | z
        · exact z
        · rcases List.mem_cons.mp ((h q).mpr List.mem_cons_self) with y | y
          · exact y.symm
          · have := h1.1 q y; have := h2.1 p z; omega
      subst e
      rw [ih h1.2 h2.2 fun x => ?_]
      constructor
      · intro hx
        rcases List.mem_cons.mp ((h x).mp (List.mem_cons_of_mem _ hx)) with z | z
        · subst z; have := h1.1 x hx; omega
        · exact z
      · intro hx
        rcases List.mem_cons.mp ((h x).mpr (List.mem_cons_of_mem _ hx)) with z | z
        · subst z; have := h2.1 x hx; omega
        · exact z
theorem IsBL.uniq {ns : List Int} {ps qs : List (Int × Int)} (h : IsBL ns ps) (k : IsBL ns qs) : ps = qs := by
  have go : ∀ {ps qs : List (Int × Int)}, IsBL ns ps → IsBL ns qs → ∀ p, p ∈ ps → p ∈ qs := fun h k p hp => by
    obtain ⟨h1, h2⟩ := h.each p hp
    obtain ⟨q, hq, e⟩ := k.all p.1 h1
    have h3 := (k.each q hq).2
    have : q = p := Prod.ext e (by rw [h3, h2, e])
    rw [← this]; exact hq
  exact IsBL.one (ns := ns) h.rise k.rise fun p => ⟨go h k p, go k h p⟩
end L2

set_option Elab.async false
set_option linter.all false
set_option maxRecDepth 100000
set_option maxHeartbeats 4000000
namespace L2
open PySem PySem.Spec PyProof.Rows PySem.W PySem.Calls
section
variable {X : Cx} {pins : List (Addr × Obj)} {σ : St} {H : Hp} {s : Shared} {h' : Heap} {t' : Nat}
/-- one thing more, at an address that was dead -/
theorem Inv.laidD {a : Addr} {o : HO} (I : Inv X pins σ H s) (k : ∀ b u, s.heap.get? b = some u → h'.get? b = some u) (hd : s.heap.get? a = none) (new : ObjOk X.prog X.w (upd H a o) h' a o) :
    Inv X pins σ (upd H a o) { s with heap := h', toks := t' } := by
  have e : over H (fun b => if b = a then some o else none) = upd H a o := by
    funext b
    unfold over L2.upd
    by_cases z : b = a
    · simp [z]
    · simp [z]
  have := I.laidMany2 (N := fun b => if b = a then some o else none) (h' := h') (t' := t') k (fun b u q => by
    by_cases z : b = a
    · rw [z]; exact hd
    · simp [z] at q) (fun b u q => by
    by_cases z : b = a
    · subst z
      simp at q
      subst q
      rw [e]; exact new
    · simp [z] at q)
  rw [e] at this
  exact this
end
section
variable {X : Cx}
end
end L2

set_option Elab.async false
set_option linter.all false
set_option maxRecDepth 100000
set_option maxHeartbeats 4000000
namespace L2
open PySem
/-- all but what S holds stays -/
def ButS (S : Addr → Prop) (H H' : Hp) : Prop := ∀ b o, ¬ S b → H b = some o → SamO o (H' b)
theorem ButS.refl (S : Addr → Prop) (H : Hp) : ButS S H H := fun _ _ _ h => SamO.of h
theorem ButS.ap {S : Addr → Prop} {H H' : Hp} (s : ButS S H H') {c : Addr} {o : HO} (n : ¬ S c) (h : SamO o (H c)) : SamO o (H' c) := by
  cases o <;> first
    | exact s c _ n h
    | (obtain ⟨qs, e⟩ := h; have z : ∃ r, H' c = Option.some (.tbl r) := s c (.tbl qs) n e; exact z)
theorem ButS.trans {S : Addr → Prop} {H H1 H2 : Hp} (a : ButS S H H1) (b : ButS S H1 H2) : ButS S H H2 := fun c o n h => b.ap n (a c o n h)
theorem ButS.upd {S : Addr → Prop} {H : Hp} {p : Addr} {o : HO} (hp : S p) : ButS S H (L2.upd H p o) := by
  intro b u n h
  have nb : b ≠ p := fun z => n (by rw [z]; exact hp)
  rw [upd_ne nb]
  exact SamO.of h
theorem ButS.mono {S S' : Addr → Prop} {H H' : Hp} (s : ButS S H H') (h : ∀ b, S b → S' b) : ButS S' H H' := fun b o n e => s b o (fun z => n (h b z)) e
theorem ButS.same {S : Addr → Prop} {H H' : Hp} (s : ButS S H H') (h : ∀ b, S b → H b = none) : Same H H' := fun b o e => s b o (fun z => by rw [h b z] at e; cases e) e
/-- but for what was new ahead -/
theorem ButS.old {S S' : Addr → Prop} {H H' : Hp} (s : ButS S H H') (h : ∀ b, S b → S' b ∨ H b = none) : ButS S' H H' := fun b o n e => s b o (fun z => (h b z).elim n fun y => by rw [y] at e; cases e) e
theorem ButS.seq {K : PySem.W.Frag} {S : Addr → Prop} {a : Addr} {H H' : Hp} {xs : List V} (s : ButS S H H') (n : ¬ S a) (h : SqL K H a xs) : SqL K H' a xs := by
  rcases h with (h | ⟨o, h⟩) | h
  · exact .inl (.inl (s _ _ n h))
  · exact .inl (.inr ⟨o, s _ _ n h⟩)
  · exact .inr h
theorem PrAt.butD {H H' : Hp} {D : Addr} {xs : List V} {ts : List Addr} {ps : List (Int × Int)} (h : PrAt H ts ps) (k : But D H H') (hD : H D = some (.lst xs)) : PrAt H' ts ps := ⟨h.1, fun j t q h1 h2 => by
  have c := h.2 j t q h1 h2
  exact k _ _ (fun z => by rw [z, hD] at c; cases c) c⟩
section
variable {X : Cx} {K : PySem.W.Frag}
end
end L2

set_option Elab.async false
set_option linter.all false
set_option maxRecDepth 100000
set_option maxHeartbeats 4000000
namespace HT
open PySem PyProof.Rows
section
open PySem.SeqAt
open PySem.AutoSeq1 (wpAny_loadPart')
open PySem.MeetsSeq PySem.MeetsSeq2 PySem.MeetsSeq3
end
section
variable {prog : Program} {w : World} {A : Around} {E : Value → Shared → Prop} {s : Shared}
end
end HT
namespace L2
open PySem PyProof.Rows
section
variable {prog : Program} {w : World} {A : Around} {R : Result → Shared → Prop} {I : Addr} {fp wr : List Addr} {n : Nat} {P : Nat → Value → Prop} {St : Nat → Heap → Prop} {h0 : Heap}
end
section
variable {prog : Program} {w : World} {A : Around} {E : Value → Shared → Prop} {s : Shared}
end
section
variable {prog : Program} {w : World} {A : Around} {R : Result → Shared → Prop} {I : Addr} {fp wr : List Addr} {n : Nat} {P : Nat → Value → Prop} {St : Nat → Heap → Prop} {h0 : Heap}
end
section
variable {prog : Program} {w : World} {A : Around} {E : Value → Shared → Prop} {s : Shared}
end
end L2

set_option Elab.async false
set_option linter.all false
set_option maxRecDepth 100000
set_option maxHeartbeats 4000000
namespace L2
open PySem PyProof.Rows
section
variable {X : Cx}
end
end L2

set_option Elab.async false
set_option linter.all false
set_option maxRecDepth 100000
set_option maxHeartbeats 4000000
namespace L2
open PySem
def wrth (ns : List Int) (b e : Nat) : Int := mn ns b e * ((e : Int) - b)
structure IsBest (ns : List Int) (W : Int) (b e : Nat) : Prop where
  be : b < e
  en : e ≤ ns.length
  w : W = wrth ns b e
  top : ∀ b' e', b' < e' → e' ≤ ns.length → wrth ns b' e' < W ∨ (wrth ns b' e' = W ∧ (b < b' ∨ (b = b' ∧ e ≤ e')))
theorem IsBest.uniq {ns : List Int} {W W' : Int} {b e b' e' : Nat} (h : IsBest ns W b e) (h' : IsBest ns W' b' e') : W = W' ∧ b = b' ∧ e = e' := by
  have h1 := h.top b' e' h'.be h'.en
  have h2 := h'.top b e h.be h.en
  rw [← h'.w] at h1
  rw [← h.w] at h2
  omega
end L2

set_option Elab.async false
set_option linter.all false
set_option maxRecDepth 100000
set_option maxHeartbeats 4000000
namespace L2
open PySem
section
variable {X : Cx} {K : PySem.W.Frag}
end
end L2

set_option Elab.async false
set_option linter.all false
set_option maxRecDepth 100000
set_option maxHeartbeats 4000000
namespace L2
open PySem PyProof.Rows PySem.W PySem.Calls
def tStepI (K : PySem.W.Frag) (c : Int) (te : TE) (tl th : TO) : TE := fun σ H Q => te σ H fun x H1 => tl σ H1 fun l H2 => th σ H2 fun u H3 => ∃ (a : Addr) (ns : List Int), x = .ref a ∧ SqL K H3 a (ns.map V.int) ∧ ∀ p, H3 p = none → Q (.ref p) (upd H3 p (.lst ((PyProof.Rows.pickNums ns l u (some c)).map V.int)))
section
variable {X : Cx}
theorem pe_step {e : Expr} {te : TE} {lo hi : Option Expr} {tl th : TO} {c : Int} {j : Nat} {p1 p2 pos : Pos} (he : PE X e te) (hl : PO X lo tl) (hu : PO X hi th) (h0 : c ≠ 0) :
    PE X (.Subscript e (.Slice lo hi (some (.Constant (.int c) j p1)) p2) pos) (tStepI X.K c te tl th) := by
  intro pins s σ H Q I h
  refine Subscript_ (thn (he pins s σ H _ I h) fun v s1 ⟨x, H1, I1, r1, q1⟩ => ?_)
  refine wpAny_Slice (thn (hl pins s1 σ H1 _ I1 q1) fun vl s2 ⟨l, H2, I2, pl, q2⟩ => thn (hu pins s2 σ H2 _ I2 q2) fun vu s3 ⟨u, H3, I3, pu, q3⟩ => ?_)
  refine thn (po_some (X := X) pe_int pins s3 σ H3 (fun o H' => o = some c ∧ H' = H3) I3 ⟨c, rfl, rfl, rfl⟩) fun w s4 ⟨o, H4, I4, pw, eo, eH⟩ => ?_
  subst eo
  have eH' : H4 = H3 := eH
  subst eH'
  obtain ⟨a, ns, rfl, hx, q⟩ := q3
  cases r1
  have I5 : Inv X pins σ H4 { s4 with heap := s4.heap.push { cls := .type "slice", data := .fields #[vl, vu, w] } } := I4.kept (t' := s4.toks) fun b ob q => Heap.get?_push_of_some _ q
  obtain ⟨its, r, ht, hz⟩ := I5.list hx
  have hlen := r.length
  have hi' : IntsAre its ns := intsAre_of r
  show wpAny (model X.prog X.w) X.A (subscriptTail e (.Slice lo hi (some (.Constant (.int c) j p1)) p2) (.ref a) (.ref s4.heap.objs.size)) (EP X pins σ Q) X.xe { s4 with heap := s4.heap.push { cls := .type "slice", data := .fields #[vl, vu, w] } }
  refine tail_any (ops := [.ref a, .ref s4.heap.objs.size]) ht.isList.typeIs slot_list_getitem.lookup ?_ (by with_unfolding_all rfl)
  refine wpAny_getItem_list_slice ht.isList (Heap.IsSliceOf.new ..) pl pu pw (fun z => h0 (Option.some.inj z)) ?_ (by rw [List.size_toArray] <;> omega)
  have hp := IntsAre.pick hi' l u (some c)
  have hpl := length_pickNums_le hi' l u (some c)
  refine ⟨.ref (s4.heap.push { cls := .type "slice", data := .fields #[vl, vu, w] }).objs.size, _, I5.laid (t' := s4.toks) (o := .lst ((PyProof.Rows.pickNums ns l u (some c)).map V.int)) (fun b ob q => Heap.get?_push_of_some _ q) (Nat.le_refl _) ?_, rfl, q _ (I5.hok.fresh (Nat.le_refl _))⟩
  refine ⟨?_, (slicePick its.toArray l u (some c)).toList, 0, vals_of_ints hp, ?_⟩
  · rw [List.length_map] at hz ⊢
    omega
  · rw [Heap.get?_push_size _ rfl]
end
theorem pick_mem {ns : List Int} {lo hi st : Option Int} {n : Int} (h : n ∈ PyProof.Rows.pickNums ns lo hi st) : n ∈ ns := by
  unfold PyProof.Rows.pickNums at h
  obtain ⟨k, _, e⟩ := List.mem_filterMap.mp h
  exact List.mem_of_getElem? e
theorem pick_two (ns : List Int) : (PyProof.Rows.pickNums ns none none (some 2)).length + (PyProof.Rows.pickNums ns (some 1) none (some 2)).length ≤ ns.length := by
  unfold PyProof.Rows.pickNums
  refine Nat.le_trans (Nat.add_le_add (List.length_filterMap_le _ _) (List.length_filterMap_le _ _)) ?_
  unfold sliceRange sliceBounds
  simp only [List.length_map, List.length_range, Option.getD_some]
  generalize ns.length = n
  simp only [show ((2 : Int) > 0) by decide, if_true, show ¬ ((1 : Int) < 0) by decide, if_false]
  by_cases h : (0 : Int) < n
  · rw [if_pos h]
    by_cases h1 : max 0 (min 1 (n : Int)) < n
    · rw [if_pos h1]; omega
    · rw [if_neg h1]; omega
  · rw [if_neg h]
    by_cases h1 : max 0 (min 1 (n : Int)) < n
    · rw [if_pos h1]; omega
    · rw [if_neg h1]; omega
end L2

set_option Elab.async false
set_option linter.all false
set_option maxRecDepth 100000
set_option maxHeartbeats 4000000
namespace L2
open PySem
section
variable {X : Cx} {j k : Nat} {C : Addr} {x m : Str} {ps : List Str} {sp : Sp} {p pos apos : Pos} {o : Expr} {ta : TE}
end
end L2

set_option Elab.async false
set_option linter.all false
set_option maxRecDepth 100000
set_option maxHeartbeats 4000000
namespace L2
open PySem
theorem seg_front {ns ms : List Int} {i j : Nat} (h : j ≤ ns.length) : seg (ns ++ ms) (i : Int) (j : Int) = seg ns (i : Int) (j : Int) := by
  unfold seg
  simp only [Int.toNat_natCast]
  by_cases hi : i ≤ ns.length
  · rw [List.drop_append_of_le_length hi, List.take_append_of_le_length (by rw [List.length_drop]; omega)]
  · rw [show j - i = 0 by omega]; simp
end L2

set_option Elab.async false
set_option linter.all false
set_option maxRecDepth 100000
set_option maxHeartbeats 4000000
namespace L2
open PySem
/-- a test by what is known behind it -/
theorem testJ {t : TT} {σ : St} {H : Hp} {Q : Bool → Hp → Prop} (J : Bool → Hp → Prop) (h1 : ∀ R : Bool → Hp → Prop, (∀ b H', J b H' → R b H') → t σ H R) (h2 : ∀ b H', J b H' → Q b H') : t σ H Q := h1 Q h2
end L2

set_option Elab.async false
set_option linter.all false
set_option maxRecDepth 100000
set_option maxHeartbeats 4000000
namespace L2
open PySem
end L2

set_option Elab.async false
set_option linter.all false
set_option maxRecDepth 100000
set_option maxHeartbeats 4000000
namespace HT
open PySem PyProof.Rows
section
open PySem.SeqAt
open PySem.AutoSeq1 (wpAny_loadPart')
open PySem.MeetsSeq PySem.MeetsSeq2 PySem.MeetsSeq3
end
section
variable {prog : Program} {w : World} {A : Around} {E : Value → Shared → Prop} {s : Shared}
end
end HT
namespace L2
open PySem
end L2

set_option Elab.async false
set_option linter.all false
set_option maxRecDepth 100000
set_option maxHeartbeats 4000000
namespace L2
open PySem
theorem IsBest.more {ns : List Int} {x W W' : Int} {b e b' e' : Nat} (h : IsBest ns W b e) (h' : IsBest (ns ++ [x]) W' b' e') : W ≤ W' := by
  have l := h'.top b e h.be (by rw [List.length_append]; have := h.en; omega)
  have ew : wrth (ns ++ [x]) b e = wrth ns b e := by unfold wrth mn; rw [seg_front h.en]
  rw [ew, ← h.w] at l
  omega
end L2

set_option Elab.async false
set_option linter.all false
set_option maxRecDepth 100000
set_option maxHeartbeats 4000000
namespace L2
open PySem
end L2

set_option Elab.async false
set_option linter.all false
set_option maxRecDepth 100000
set_option maxHeartbeats 4000000
namespace L2
open PySem PySem.Spec PyProof.Rows PySem.W PySem.Calls
end L2

set_option Elab.async false
set_option linter.all false
set_option maxRecDepth 100000
set_option maxHeartbeats 4000000
namespace L2
open PySem PySem.Spec PyProof.Rows PySem.W PySem.Calls
end L2

set_option Elab.async false
set_option linter.all false
set_option maxRecDepth 100000
set_option maxHeartbeats 4000000
namespace L2
open PySem PySem.Spec PyProof.Rows PySem.W PySem.Calls
end L2

set_option Elab.async false
set_option linter.all false
set_option maxRecDepth 100000
set_option maxHeartbeats 4000000
namespace L2
open PySem PySem.Spec PyProof.Rows PySem.W PySem.Calls
theorem IsBL.len {ns : List Int} {ps : List (Int × Int)} (h : IsBL ns ps) : ps.length ≤ ns.length := by
  have hnd : (ps.map (·.1)).Nodup := by
    rw [List.Nodup, List.pairwise_map]
    exact h.rise.imp fun h z => by omega
  have hsub : ∀ v ∈ ps.map (·.1), v ∈ ns := fun v hv => by
    obtain ⟨p', hp', rfl⟩ := List.mem_map.mp hv
    exact (h.each p' hp').1
  have := hnd.length_le_of_subset hsub
  rwa [List.length_map] at this
theorem IsBL.nd {ns : List Int} {ps : List (Int × Int)} (h : IsBL ns ps) : (ps.map (·.1)).Nodup := by
  rw [List.Nodup, List.pairwise_map]
  exact h.rise.imp fun h z => by omega
end L2

set_option Elab.async false
set_option linter.all false
set_option maxRecDepth 100000
set_option maxHeartbeats 4000000
namespace L2
open PySem PySem.Spec PyProof.Rows PySem.W PySem.Calls
theorem PrAt.app {H : Hp} {ts us : List Addr} {ps qs : List (Int × Int)} (h : PrAt H ts ps) (k : PrAt H us qs) : PrAt H (ts ++ us) (ps ++ qs) := by
  refine ⟨by rw [List.length_append, List.length_append, h.1, k.1], fun j t p h1 h2 => ?_⟩
  by_cases z : j < ts.length
  · rw [List.getElem?_append_left z] at h1
    rw [List.getElem?_append_left (by rw [← h.1]; exact z)] at h2
    exact h.2 j t p h1 h2
  · rw [List.getElem?_append_right (by omega)] at h1
    rw [List.getElem?_append_right (by rw [← h.1]; omega), ← h.1] at h2
    exact k.2 _ t p h1 h2
end L2

set_option Elab.async false
set_option linter.all false
set_option maxRecDepth 100000
set_option maxHeartbeats 4000000
namespace L2
open PySem PySem.Spec PyProof.Rows
open AutoSeq1 (wpAny_loadPart')

section
variable {prog : Program} {w : World} {A : Around} {E : Value → Shared → Prop} {s : Shared}
end
end L2

set_option Elab.async false
set_option linter.all false
set_option maxRecDepth 100000
set_option maxHeartbeats 4000000
namespace L2
open PySem PySem.Spec PyProof.Rows

section
variable {scope : Scope} {cl : List (Str × Addr)} {env : Env} {prog : Program} {w : World} {xa xb : Str}
end
end L2

set_option Elab.async false
set_option linter.all false
set_option maxRecDepth 100000
set_option maxHeartbeats 4000000
namespace L2
open PySem
end L2

set_option Elab.async false
set_option linter.all false
set_option maxRecDepth 100000
set_option maxHeartbeats 4000000
namespace L2
open PySem PySem.Spec PyProof.Rows

structure GenOk (N : List Str) (sc scope : Scope) : Prop where
  kind : scope.kind = .function
  co : scope.isCoroutine = false
  zero : scope.names.lookup (".0" : Str) = some NameKind.local
  uniq : ∀ y ∈ scope.names, scope.names.lookup y.1 = some y.2
  nocell : ∀ y ∈ scope.names, y.2 ≠ .cell
  free : ∀ y ∈ scope.names, y.2 = .free → sc.names.lookup y.1 = some .cell ∨ sc.names.lookup y.1 = some .free
  own : ∀ y ∈ scope.names, y.2 = .local → y.1 ∉ N
abbrev Cx.gen (X : Cx) (A' : Around) (s : Shared) (H : Hp) (own : List Str) (cenv : Env) (fp : List Addr) : Cx :=
  { X with A := A', N := X.N ++ own, s_0 := { s with gens := s.gens.push .running }, H_0 := H, env := cenv, outer := X.stack, stack := cenv :: X.stack, ex := fp, fn := fun _ => false, calm := true, pn := [], xe := fun _ _ => False }
section
variable {X : Cx} {pins : List (Addr × Obj)} {σ : St} {H H' : Hp} {s s' : Shared}
theorem Inv.gens {g' : Array GenState} (I : Inv X pins σ H s) (hb : BareG s.gens g') : Inv X pins σ H { s with gens := g' } := ⟨I.ok, I.os, ⟨hb.1, Nat.le_trans I.bare.2 hb.2⟩, I.base, I.loc, I.cell, I.free, I.freeC, I.pin, I.hok, I.len⟩
end
end L2

set_option Elab.async false
set_option linter.all false
set_option maxRecDepth 100000
set_option maxHeartbeats 4000000
namespace L2
open PySem PySem.Spec PyProof.Rows

/-- a generator that waits ahead of its turn i -/
def GS (G : Cx) (a : Addr) (go : Obj) (σ : St) (tn : Nat → Heap → Prop) (fp : List Addr) (i : Nat) (H : Hp) (s : Shared) : Prop := Inv G [(a, go)] σ H s ∧ tn i s.heap ∧ ∀ b ∈ fp, H b = none
section
variable {G : Cx} {B : Around} {a it : Addr} {go : Obj} {σ : St} {tn : Nat → Heap → Prop} {fp : List Addr} {W : Nat → Nat → Hp → Prop} {Fin No : Hp → Prop}
variable {elt tg iter : Expr} {ifs : List Expr} {scope : Scope} {pos : Pos} {J : It} {g : TG} {tt : TT} {te : TE} {vs : List Nat}
theorem bare_set {s : Shared} {g : Nat} {x : GenState} (h : AllBare s.gens) (hx : x.bare = true) : AllBare (s.setGen g x).gens := fun y hy => by
  have hy : y ∈ s.gens.setIfInBounds g x := hy
  obtain ⟨j, hj, e⟩ := Array.mem_iff_getElem.mp hy
  rw [Array.getElem_setIfInBounds (by simpa using hj)] at e
  split at e
  · rw [← e]; exact hx
  · rw [← e]; exact h _ (Array.getElem_mem _)
theorem bareG_set {s : Shared} {g : Nat} {x : GenState} (h : AllBare s.gens) (hx : x.bare = true) : BareG s.gens (s.setGen g x).gens := ⟨bare_set h hx, by simp [Shared.setGen]⟩
theorem GS.set {s : Shared} {i : Nat} {H : Hp} {k : Nat} {x : GenState} (h : GS G a go σ tn fp i H s) (hx : x.bare = true) : GS G a go σ tn fp i H (s.setGen k x) := ⟨h.1.gens (bareG_set h.1.bare.1 hx), h.2.1, h.2.2⟩
end
section
variable {X : Cx} {pins : List (Addr × Obj)} {σX : St} {G : Cx} {B : Around} {a : Addr} {k : Nat} {nm qn : Value} {go : Obj} {σ : St} {tn : Nat → Heap → Prop} {fp : List Addr} {W : Nat → Nat → Hp → Prop} {Fin No : Hp → Prop} {R : Result → Shared → Prop}
end
end L2

set_option Elab.async false
set_option linter.all false
set_option maxRecDepth 100000
set_option maxHeartbeats 4000000
namespace L2
open PySem PySem.Spec PyProof.Rows

end L2

set_option Elab.async false
set_option linter.all false
set_option maxRecDepth 100000
set_option maxHeartbeats 4000000
namespace L2
open PySem PySem.Spec PyProof.Rows
def oV : Option Int → V
  | none => .non
  | some n => .int n
def oD : Option Int → PyData
  | none => .none
  | some n => .int n
abbrev optsD (ns : List (Option Int)) : PyData := .list (ns.map oD)
theorem dpOpts {K : PySem.W.Frag} {H : Hp} : ∀ (ns : List (Option Int)), DpAll K H (ns.map oV) (ns.map oD)
  | [] => .nil
  | none :: r => .cons .non (dpOpts r)
  | some n :: r => .cons (.int n) (dpOpts r)
theorem dpOpts' {K : PySem.W.Frag} {H : Hp} {a : Addr} {ns : List (Option Int)} (h : SqL K H a (ns.map oV)) : Dp K H (.ref a) (optsD ns) := .lst h (dpOpts ns)
theorem canLayOpts : ∀ (ns : List (Option Int)), PyData.canLayAll0 (ns.map oD) = true
  | [] => rfl
  | none :: r => by rw [List.map_cons]; simp [PyData.canLayAll0, PyData.canLay0, canLayOpts r, oD]
  | some n :: r => by rw [List.map_cons]; simp [PyData.canLayAll0, PyData.canLay0, canLayOpts r, oD]
theorem depthOpts : ∀ (ns : List (Option Int)), PyData.depthAll (ns.map oD) ≤ 1
  | [] => by simp [PyData.depthAll]
  | none :: r => by have := depthOpts r; rw [List.map_cons]; simp only [PyData.depthAll, PyData.depth, oD]; omega
  | some n :: r => by have := depthOpts r; rw [List.map_cons]; simp only [PyData.depthAll, PyData.depth, oD]; omega
theorem shapedOpts (ns : List (Option Int)) : SeqAt.shaped (optsD ns) = true := by
  have h1 := canLayOpts ns
  have h2 := depthOpts ns
  unfold SeqAt.shaped
  simp only [PyData.canLay0, PyData.depth, h1, Bool.true_and]
  exact decide_eq_true (by omega)
theorem eqvO : ∀ (a b : Option Int), PyData.eqv (oD a) (oD b) = decide (a = b)
  | none, none => by simp [oD, PyData.eqv]
  | none, some _ => by simp [oD, PyData.eqv]
  | some _, none => by simp [oD, PyData.eqv]
  | some _, some _ => by simp only [oD, PyData.eqv, Option.some.injEq]; rfl
theorem eqvAllOpts : ∀ (ns ms : List (Option Int)), PyData.eqvAll (ns.map oD) (ms.map oD) = decide (ns = ms)
  | [], [] => by simp [PyData.eqvAll]
  | [], _ :: _ => by simp [PyData.eqvAll]
  | _ :: _, [] => by simp [PyData.eqvAll]
  | n :: ns, m :: ms => by
    rw [List.map_cons, List.map_cons]
    simp only [PyData.eqvAll, eqvO, eqvAllOpts ns ms, List.cons.injEq, Bool.decide_and]
theorem eqvOpts (ns ms : List (Option Int)) : PyData.eqv (optsD ns) (optsD ms) = decide (ns = ms) := by
  simp only [PyData.eqv]; exact eqvAllOpts ns ms
def rEqLO (K : PySem.W.Frag) : R2 := fun x y H Q => ∃ (a b : Addr) (ns ms : List (Option Int)), x = .ref a ∧ y = .ref b ∧ SqL K H a (ns.map oV) ∧ SqL K H b (ms.map oV) ∧ Q (.bl (decide (ns = ms))) H
section
variable {X : Cx}
theorem op_eqLO (hu : X.A.units + 64 < cLine) : OpR X (compareOp .Eq) (rEqLO X.K) := by
  intro pins s σ H x y v u Q I rx ry h
  obtain ⟨a, b, ns, ms, rfl, rfl, h1, h2, q⟩ := h
  exact op_eqD hu pins s σ H _ _ v u Q I rx ry ⟨_, _, dpOpts' h1, dpOpts' h2, shapedOpts _, shapedOpts _, by rw [eqvOpts]; exact q⟩
end
end L2

set_option Elab.async false
set_option linter.all false
set_option maxRecDepth 100000
set_option maxHeartbeats 4000000
namespace L2
open PySem PySem.Spec PyProof.Rows
section
variable {X : Cx}
end
end L2

set_option Elab.async false
set_option linter.all false
set_option maxRecDepth 100000
set_option maxHeartbeats 4000000
namespace L2
open PySem PySem.Spec PyProof.Rows
section
variable {X : Cx}
end
end L2

set_option Elab.async false
set_option linter.all false
set_option maxRecDepth 100000
set_option maxHeartbeats 4000000
namespace L2
open PySem PySem.Spec PyProof.Rows PySem.W PySem.Calls
def dkT (ks : List Int) : List (Key × V) := ks.map fun n => (Sum.inl n, V.bl true)
theorem stored_keys {l : List Value} {kvs : List (Key × Value)} (h : StoredAll (fun v (k : Key) => ∃ n t, v = Value.int n t ∧ k = Sum.inl n) (fun _ y => y = Value.bool true) l kvs) : ∃ ks : List Int, kvs = ks.map (fun n => ((Sum.inl n : Key), Value.bool true)) ∧ ∀ n, n ∈ ks ↔ ∃ t, Value.int n t ∈ l := by
  induction h with
  | nil => exact ⟨[], rfl, fun n => by simp⟩
  | @snoc l kvs v k y h1 h2 h3 ih =>
    obtain ⟨ks, rfl, hm⟩ := ih
    obtain ⟨n, t, rfl, rfl⟩ := h2
    subst h3
    by_cases hn : n ∈ ks
    · refine ⟨ks, ?_, fun x => ?_⟩
      · unfold stored
        rw [if_pos (by rw [List.any_eq_true]; exact ⟨_, List.mem_map.mpr ⟨n, hn, rfl⟩, by simp⟩)]
        rw [List.map_map]
        refine List.map_congr_left fun z _ => ?_
        show (if (Sum.inl z : Key) = Sum.inl n then ((Sum.inl z : Key), Value.bool true) else _) = _
        split <;> rfl
      · rw [hm x]
        constructor
        · rintro ⟨t', h⟩; exact ⟨t', List.mem_append_left _ h⟩
        · rintro ⟨t', h⟩
          rcases List.mem_append.mp h with z | z
          · exact ⟨t', z⟩
          · have : Value.int x t' = Value.int n t := by simpa using z
            cases this
            exact (hm n).mp hn
    · refine ⟨ks ++ [n], ?_, fun x => ?_⟩
      · unfold stored
        rw [if_neg (by
          rw [Bool.not_eq_true, List.any_eq_false]
          intro z hz
          obtain ⟨m, hm', rfl⟩ := List.mem_map.mp hz
          have : m ≠ n := fun e => hn (e ▸ hm')
          simpa using this)]
        rw [List.map_append]; rfl
      · rw [List.mem_append, hm x]
        constructor
        · rintro (⟨t', h⟩ | h)
          · exact ⟨t', List.mem_append_left _ h⟩
          · have : x = n := by simpa using h
            subst this
            exact ⟨t, List.mem_append_right _ (List.mem_singleton.mpr rfl)⟩
        · rintro ⟨t', h⟩
          rcases List.mem_append.mp h with z | z
          · exact .inl ⟨t', z⟩
          · have : Value.int x t' = Value.int n t := by simpa using z
            cases this
            exact .inr (List.mem_singleton.mpr rfl)
theorem ints_at : ∀ {its : List Value} {ns : List Int} {i : Nat} {v : Value}, IntsAre its ns → its[i]? = some v → ∃ n t, v = .int n t ∧ ns[i]? = some n := by
  intro its ns i v h
  induction h generalizing i with
  | nil => intro e; simp at e
  | cons n t r ih =>
    intro e
    cases i with
    | zero => exact ⟨n, t, by simpa using e.symm, rfl⟩
    | succ i => exact ih (by simpa using e)
theorem dkT_rel : ∀ ks : List Int, KV (dkT ks) (ks.map fun n => ((Sum.inl n : Key), Value.bool true))
  | [] => .nil
  | n :: r => .cons ⟨rfl, rfl⟩ (dkT_rel r)
def tDcT (K : PySem.W.Frag) (tl : TE) : TE := fun σ H Q => tl σ H fun v H1 => ∃ (a : Addr) (ns : List Int), v = .ref a ∧ SqL K H1 a (ns.map V.int) ∧ ∀ (D : Addr) (ks : List Int), H1 D = none → (∀ n, n ∈ ks ↔ n ∈ ns) → Q (.ref D) (upd H1 D (.dK (dkT ks)))
theorem dcT_core {X : Cx} {pins : List (Addr × Obj)} {s : Shared} {σ : St} {H : Hp} {Q : VK} {l : Expr} {tl : TE} {x : Str} {p1 p2 px pos pos' : Pos} {j : Nat} {scope : Scope} {use : Option (Value → Sem Unit)} {Qf : Value → Shared → Prop} (I : Inv X pins σ H s) (hc : X.calm = true) (hl : PE X l tl) (hfree : ∀ y ∈ scope.names, y.2 ≠ .free) (hcell : ∀ y ∈ scope.names, y.2 ≠ .cell) (hkind : scope.kind = .function)
    (hnames : ∀ y ∈ scope.names, y.2 = .local → scope.names.lookup y.1 = some .local) (hx : scope.names.lookup x = some .local) (hd : (x == ("__debug__" : Str)) = false)
    (hs : ∀ y, foldedSetIterable l X.env y = pure y) (h : tDcT X.K tl σ H Q)
    (hRR : ∀ D C s' m H', Inv X pins σ H' s' → Q (.ref D) H' → s'.heap.Ns C m → FpOk X pins H' C → compPost (model X.prog X.w) X.A X.xe use Qf (.ref D) C (.ok .next) s') :
    wpAny (model X.prog X.w) X.A (comprehension (.DictComp (.Name x p1) (.Constant (.bool true) j p2) [⟨.Name x px, l, [], 0⟩] scope pos) scope X.env pos' newDict false (eval l X.env) use) Qf X.xe s := by
  refine wpAny_comprehension_free rfl hs (closureFor_none hfree) hkind hnames (thn (hl pins s σ H _ I h) fun v s1 ⟨y, H1, I1, r1, q1⟩ => ?_)
  obtain ⟨a, ns, rfl, hq, q⟩ := q1
  cases r1
  obtain ⟨its, rv, pl, hz⟩ := I1.list hq
  have hi := rv.ints
  have hal : a < s1.heap.objs.size := by obtain ⟨_, z, _⟩ := pl.isList; exact Heap.lt_size z
  refine wpAny_pyIter_list pl.isList ?_
  have hit : (s1.heap.push { cls := .type "list_iterator", data := .fields #[.ref a, .int 0 0] }).IsListIter s1.heap.objs.size a 0 := ⟨_, Heap.get?_push_size _ rfl, rfl, rfl⟩
  have hil : (s1.heap.push { cls := .type "list_iterator", data := .fields #[.ref a, .int 0 0] }).IsList a its.toArray := pl.isList.push _
  have kp1 : ∀ b o, s1.heap.get? b = some o → (s1.heap.push { cls := .type "list_iterator", data := .fields #[.ref a, .int 0 0] }).get? b = some o := fun b o e => Heap.get?_push_of_some _ e
  have sz1 : (s1.heap.push { cls := .type "list_iterator", data := .fields #[.ref a, .int 0 0] }).objs.size = s1.heap.objs.size + 1 := Heap.size_push ..
  generalize s1.heap.push { cls := .type "list_iterator", data := .fields #[.ref a, .int 0 0] } = g1 at hit hil kp1 sz1 ⊢
  have W := Walks.list (prog := X.prog) (w := X.w) (A := X.A) (I1.ok.hd hc) s1.heap.objs.size a (Nat.ne_of_lt hal) its.toArray
  refine wpAny_newObj_type (wpAny_newFunctionEnv hcell (by intro y hy; simp at hy) (fun h₁ hns₁ hsb₁ => ?_) hkind)
  dsimp only at hns₁ hsb₁ ⊢
  have hnew : (g1.push { cls := .type "dict", dict := none, data := .dict #[] }).DictOf (mixKind X.prog X.w) g1.objs.size [] := Heap.DictOf.new g1
  have kp2 : ∀ b o, g1.get? b = some o → (g1.push { cls := .type "dict", dict := none, data := .dict #[] }).get? b = some o := fun b o e => Heap.get?_push_of_some _ e
  have sz2 : (g1.push { cls := .type "dict", dict := none, data := .dict #[] }).objs.size = g1.objs.size + 1 := Heap.size_push ..
  generalize g1.push { cls := .type "dict", dict := none, data := .dict #[] } = g2 at hns₁ hsb₁ hnew kp2 sz2 ⊢
  have lt2 : ∀ b o, g1.get? b = some o → b < g1.objs.size := fun b o e => Heap.lt_size e
  have old : ∀ b o, g1.get? b = some o → h₁.get? b = some o := fun b o e => hsb₁.extBut b o (Nat.ne_of_lt (Nat.lt_of_lt_of_le (lt2 b o e) (by omega))) (Heap.get?_push_of_some _ (kp2 b o e))
  have hDC : g1.objs.size ≠ g2.objs.size := by omega
  have hacc : h₁.DictOf (mixKind X.prog X.w) g1.objs.size [] := hnew.at fun o e => hsb₁.extBut _ _ hDC (Heap.get?_push_of_some _ e)
  have hst := W.frame _ _ _ ⟨hit, hil⟩ fun b _ o e => old b o e
  have hal' : (a : Nat) < s1.heap.objs.size := hal
  have n11 : g1.objs.size ≠ s1.heap.objs.size := by omega
  have n12 : g1.objs.size ≠ a := Nat.ne_of_gt (Nat.lt_of_lt_of_le hal' (by omega))
  have n21 : g2.objs.size ≠ s1.heap.objs.size := by omega
  have n22 : g2.objs.size ≠ a := Nat.ne_of_gt (Nat.lt_of_lt_of_le hal' (by omega))
  have hin : ∀ (i : Nat) (v : Value), its.toArray[i]? = some v → ∃ n t, v = .int n t ∧ ns[i]? = some n := fun i v e => by
    rw [List.getElem?_toArray] at e
    exact ints_at hi e
  have hsz : its.toArray.size ≤ sizeLine := by
    have := rv.length
    rw [List.size_toArray]; omega
  have loop : codeAny (model X.prog X.w) X.A (.compLoop (.DictComp (.Name x p1) (.Constant (.bool true) j p2) [⟨.Name x px, l, [], 0⟩] scope pos) 0 (.ref s1.heap.objs.size) (.ref g1.objs.size) (compEnvC scope [] g2.objs.size X.env))
      (compPost (model X.prog X.w) X.A X.xe use Qf (.ref g1.objs.size) g2.objs.size) { s1 with heap := h₁, toks := s1.toks + ([] : List (Str × Value)).length } := by
    refine codeAny_compLoop_walkD (hsz := hsz) (knd := mixKind X.prog X.w) (cenv := compEnvC scope [] g2.objs.size X.env) W (fun _ => true) (fun v k => ∃ n t, v = .int n t ∧ k = .inl n) (fun _ y => y = .bool true) (lookup_relabel_local hx) (by simp [compEnvC, relabel, hkind]) hDC
      (fun hm => (List.mem_cons.mp hm).elim n11 fun hm => n12 (List.mem_singleton.mp hm)) (fun hm => (List.mem_cons.mp hm).elim n21 fun hm => n22 (List.mem_singleton.mp hm)) hst hacc hns₁ ?_ ?_ ?_ ?_
    · intro i v s₂ m₂ hv hn hm hk
      exact wpAny_pure ⟨rfl, ⟨_, _, rfl, fun _ _ e => e⟩⟩
    · intro i v s₂ m₂ hv _ hn hm hk
      obtain ⟨n, t, rfl, _⟩ := hin i v hv
      exact ldVarK hn hm ⟨⟨.inl n, mixKind_int _ _ n t, n, t, rfl, rfl⟩, ⟨_, _, rfl, fun _ _ e => e⟩⟩ (by simp [compEnvC, relabel, hkind]) (lookup_relabel_local hx) hd
    · intro i v s₂ m₂ hv _ hn hm hk
      exact Constant_bool ⟨rfl, ⟨_, _, rfl, fun _ _ e => e⟩⟩
    · intro h' tk m' kvs vs hn ha hlen hP hF hk
      have hfl : vs.filter (fun _ => true) = vs := List.filter_eq_self.mpr fun _ _ => rfl
      rw [hfl] at hF
      obtain ⟨ks, rfl, hm⟩ := stored_keys hF
      have hlen' : vs.length = its.length := by rw [hlen, List.size_toArray]
      have hvs : vs = its := by
        apply List.ext_getElem?
        intro i
        rcases Nat.lt_or_ge i vs.length with z | z
        · have := hP i vs[i] (List.getElem?_eq_getElem z)
          rw [List.getElem?_toArray] at this
          rw [List.getElem?_eq_getElem z, this]
        · rw [List.getElem?_eq_none z, List.getElem?_eq_none (by omega)]
      subst hvs
      have dead : s1.heap.get? g1.objs.size = none := by
        cases e : s1.heap.get? g1.objs.size with
        | none => rfl
        | some o => exact absurd (Heap.lt_size e) (Nat.not_lt.mpr (Nat.le_of_lt (show s1.heap.objs.size < g1.objs.size by omega)))
      have keep : ∀ b o, s1.heap.get? b = some o → h'.get? b = some o := fun b o e => by
        have lb : (b : Nat) < s1.heap.objs.size := Heap.lt_size e
        have nC : b ≠ g2.objs.size := Nat.ne_of_lt (Nat.lt_of_lt_of_le lb (by omega))
        exact (hk b o nC (fun hm => Nat.ne_of_lt lb (List.mem_singleton.mp hm)) (Nat.ne_of_lt (Nat.lt_of_lt_of_le lb (by omega))) (old b o (kp1 b o e)))
      have mem : ∀ n, n ∈ ks ↔ n ∈ ns := fun n => by
        rw [hm n]
        constructor
        · rintro ⟨t, ht⟩
          obtain ⟨i, hi', e⟩ := List.mem_iff_getElem.mp ht
          obtain ⟨n', t', e1, e2⟩ := ints_at hi (i := i) (v := Value.int n t) (by rw [List.getElem?_eq_getElem hi', e])
          cases e1
          exact List.mem_of_getElem? e2
        · intro hn'
          obtain ⟨i, hi', e⟩ := List.mem_iff_getElem.mp hn'
          have hlv : i < vs.length := by rw [hi.length]; exact hi'
          obtain ⟨n', t', e1, e2⟩ := ints_at hi (List.getElem?_eq_getElem hlv)
          rw [List.getElem?_eq_getElem hi', e] at e2
          cases e2
          exact ⟨t', e1 ▸ List.getElem_mem hlv⟩
      have hkl : ks.length ≤ sizeLine := by
        have := hF.length_le
        rw [List.length_map] at this
        rw [List.size_toArray] at hsz
        omega
      have big := I1.big
      refine hRR g1.objs.size g2.objs.size _ m' (upd H1 g1.objs.size (.dK (dkT ks))) (I1.laidD (t' := tk) keep dead ⟨by unfold dkT; rw [List.length_map]; exact hkl, beq_eq_false_iff_ne.mpr (Nat.ne_of_gt (Nat.lt_of_lt_of_le big (show s1.heap.objs.size ≤ g1.objs.size by omega))), _, dkT_rel ks, ha⟩) (q _ ks (I1.hok.dead dead) mem) hn (I1.fpOk (by show s1.heap.objs.size ≤ g2.objs.size; omega) ?_)
      rw [upd_ne hDC.symm]
      exact I1.hok.fresh (by show s1.heap.objs.size ≤ g2.objs.size; omega)
  exact codeAny_compStart_dict loop (W.self 0 _ _ _ hst loop)
theorem pe_dcT {X : Cx} {l : Expr} {tl : TE} {x : Str} {p1 p2 px pos : Pos} {j : Nat} {scope : Scope} (hc : X.calm = true) (hl : PE X l tl) (hfree : ∀ y ∈ scope.names, y.2 ≠ .free) (hcell : ∀ y ∈ scope.names, y.2 ≠ .cell) (hkind : scope.kind = .function)
    (hnames : ∀ y ∈ scope.names, y.2 = .local → scope.names.lookup y.1 = some .local) (hx : scope.names.lookup x = some .local) (hd : (x == ("__debug__" : Str)) = false)
    (hs : ∀ y, foldedSetIterable l X.env y = pure y := by intro _; rfl) :
    PE X (.DictComp (.Name x p1) (.Constant (.bool true) j p2) [⟨.Name x px, l, [], 0⟩] scope pos) (tDcT X.K tl) := by
  intro pins s σ H Q I h
  rw [arm_eval_DictComp]
  refine dcT_core I hc hl hfree hcell hkind hnames hx hd hs h fun D C s' m H' I' q hn f => ⟨m, hn, fun h'' sb => ?_⟩
  obtain ⟨f0, f1, f2, f3, f4, f5⟩ := f
  exact ⟨.ref D, H', I'.turned (t' := s'.toks) (fun b o hb e => (sb.2 b hb).trans e) f0 f1 f3 f4 f5, rfl, q⟩
theorem val_isSome (n : Int) : ∀ (ks : List Int) (vs : List (Key × Value)), KV (dkT ks) vs → (valueAt vs (Sum.inl n : Key)).isSome = decide (n ∈ ks)
  | [], [], _ => rfl
  | m :: r, (k, u) :: vs, h => by
    cases h with
    | cons h1 h2 =>
      have ek : (Sum.inl m : Key) = k := h1.1
      subst ek
      have ih := val_isSome n r vs h2
      by_cases e : m = n
      · subst e
        have : valueAt (((Sum.inl m : Key), u) :: vs) (Sum.inl m : Key) = some u := by
          unfold valueAt
          rw [List.find?_cons_of_pos (by simp)]; rfl
        rw [this]
        exact (decide_eq_true (List.mem_cons_self)).symm
      · have hne : (Sum.inl m : Key) ≠ Sum.inl n := fun z => e (Sum.inl.inj z)
        have : valueAt (((Sum.inl m : Key), u) :: vs) (Sum.inl n : Key) = valueAt vs (Sum.inl n : Key) := by
          unfold valueAt
          rw [List.find?_cons_of_neg (by simpa using hne)]
        rw [this, ih]
        exact decide_eq_decide.mpr ⟨fun z => List.mem_cons_of_mem _ z, fun z => (List.mem_cons.mp z).resolve_left fun y => e y.symm⟩
section
variable {X : Cx}
theorem op_inT : OpR X (compareOp .In) (fun x y H Q => ∃ (n : Int) (d : Addr) (ks : List Int), x = .int n ∧ y = .ref d ∧ H d = some (.dK (dkT ks)) ∧ Q (.bl (decide (n ∈ ks))) H) := by
  intro pins s σ H x y v u Q I rx ry h
  obtain ⟨n, d, ks, rfl, rfl, hd, q⟩ := h
  obtain ⟨t, rfl⟩ := (show ∃ t, v = Value.int n t from rx)
  cases ry
  obtain ⟨z, hs, vs, rel, dd⟩ := dk_of I.hok hd
  refine wpAny_in_of (mixKind_int _ _ n t) hs dd.mapOf ?_
  rw [val_isSome n ks vs rel]
  exact ⟨.bl _, H, I.tok _, rfl, q⟩
end
/-- x in a list, within a comprehension -/
theorem op_in_seqK {X : Cx} {K : PySem.W.Frag} (h : X.K = K) : OpR X (compareOp .In) (rIn K false) := by subst h; exact op_in_seq
end L2

set_option Elab.async false
set_option linter.all false
set_option maxRecDepth 100000
set_option maxHeartbeats 4000000
namespace Law
open PySem L2
def top (i : Nat) : Stmt := PySem.Challenge.pw_stretchleast_k38_lowest_places_above.main.body.getD i (.Pass ⟨0, 0, 0, 0⟩)
abbrev bls : List Str := ["list", "enumerate", "int", "sum", "sorted", "range", "len", "min", "max", "isinstance", "bool", "repr", "zip", "set", "tuple", "dict", "reversed", "divmod", "str", "all", "abs"]
def Draws (H : Hp) (p : Addr) : Prop := ∃ ds : List Int, H p = some (.lst (ds.map V.int)) ∧ ds.length ≤ 240 ∧ ∀ d ∈ ds, 0 ≤ d ∧ d < 1000
theorem Draws.same {H H' : Hp} {p : Addr} (h : Draws H p) (s : Same H H') : Draws H' p := by
  obtain ⟨ds, c, r⟩ := h
  exact ⟨ds, s _ _ c, r⟩
theorem Draws.some {H : Hp} {p : Addr} (h : Draws H p) : H p ≠ none := by
  obtain ⟨ds, c, r⟩ := h
  rw [c]; simp
theorem Draws.ne {H : Hp} {p q : Addr} (h : Draws H p) (n : H q = none) : q ≠ p := fun z => h.some (z ▸ n)
theorem Draws.at {H : Hp} {p D : Addr} {o : HO} (h : Draws H p) (n : D ≠ p) : Draws (upd H D o) p := by
  obtain ⟨ds, c, r⟩ := h
  exact ⟨ds, by rw [upd_ne n.symm]; exact c, r⟩
theorem Draws.new {H : Hp} {p q : Addr} {o : HO} (h : Draws H p) (n : H q = none) : Draws (upd H q o) p := h.at (h.ne n)
def spDraws (K : PySem.W.Frag) : Sp := fun vs H Q _ => ∃ (a : Addr) (ns : List Int), vs = [.ref a] ∧ SqL K H a (ns.map V.int) ∧ ns.length ≤ 63 ∧ ∀ (p : Addr) (H' : Hp), H p = none → Same H H' → Draws H' p → Q (.ref p) H'
def spTake : Sp := fun vs H Q _ => ∃ (p : Addr) (many : Int), vs = [.ref p, .int many] ∧ Draws H p ∧ 0 < many ∧ ∀ got H', 0 ≤ got → got < many → got < 1000 → Draws H' p → But p H H' → Q (.int got) H'
section
variable {P : Program} {w : World} {K : PySem.W.Frag} {mg : Str → Option Value} {base : Heap}
def x_law_draws : { t : Stmt // top 4 = t } := ⟨_, by conv => { lhs; whnf }⟩
abbrev s_law_draws : Stmt := x_law_draws.1
theorem sc_law_draws : FnScope ["script", "draws", "k", "rest", "stir", "many"] ["script"] (defScope s_law_draws) := ⟨rfl, rfl, rfl, by decide +kernel, rfl, by decide +kernel, by decide +kernel⟩
theorem fn_draws (B : Bl mg bls) (D : DefAt K mg "_law_draws" s_law_draws ["script"]) : Fn P w K mg base 1 "_law_draws" ["script"] (spDraws K) := by
  refine D.fn sc_law_draws (fun vs H Q E h => ?_) (fun f cdv A outer s H vs Q E hr h => ?_)
  · obtain ⟨a, ns, rfl, _⟩ := h; rfl
  · obtain ⟨a, ns, rfl, hs, hl, q⟩ := h
    refine' ⟨_, ?tm, ?rd⟩
    (case tm =>
      (conv => { arg 2; whnf })
      refine' pss_cons ?s0 ?r0
      (case s0 =>
        exact (ps_set (i := 1) sc_law_draws.nd (by rfl) (by first | exact Or.inl rfl | exact Or.inr rfl) (pe_lst pa_nil)))
      (case r0 =>
        refine' pss_cons ?s0x ?r0x
        (case s0x =>
          refine' ps_for PassesOwn.never (by rfl) ?i0x ?g0x ?d0x
          (case i0x => exact (pi_range1 (by rfl) (B "range" (by decide +kernel)) (pa_cons (pe_callB (call_min2 rfl) (by rfl) (B "min" (by decide +kernel)) (by decide +kernel) (pa_cons (pe_callB call_len_seq (by rfl) (B "len" (by decide +kernel)) (by decide +kernel) (pa_cons (pv 0) pa_nil)) (pa_cons pe_int pa_nil))) pa_nil)))
          (case g0x => exact (pg_name (i := 2) sc_law_draws.nd (by rfl) (by first | exact Or.inl rfl | exact Or.inr rfl)))
          (case d0x =>
            refine' pss_cons ?s0xf ?r0xf
            (case s0xf =>
              exact (ps_set (i := 3) sc_law_draws.nd (by rfl) (by first | exact Or.inl rfl | exact Or.inr rfl) (pe_callB call_abs (by rfl) (B "abs" (by decide +kernel)) (by decide +kernel) (pa_cons (pe_ix ix_list (pv 0) (pv 2) (fun _ _ => rfl)) pa_nil))))
            (case r0xf =>
              refine' pss_one ?s0xfx
              (case s0xfx =>
                refine' ps_if ?c0xfx ?a0xfx ?b0xfx
                (case c0xfx => exact (pt_cmpR op_lt (pv 3) (pe_op op_pow pe_int pe_int) (nomark _)))
                (case a0xfx =>
                  refine' pss_cons ?s0xfxi ?r0xfxi
                  (case s0xfxi =>
                    exact (ps_set (i := 4) sc_law_draws.nd (by rfl) (by first | exact Or.inl rfl | exact Or.inr rfl) (pe_op op_mod (pe_op op_mul (pe_op op_mod (pe_op op_add (pe_op op_add (pv 3) (pe_op op_mul pe_int (pv 2))) pe_int) pe_int) pe_int) pe_int)))
                  (case r0xfxi =>
                    refine' pss_cons ?s0xfxix ?r0xfxix
                    (case s0xfxix =>
                      exact (ps_set (i := 4) sc_law_draws.nd (by rfl) (by first | exact Or.inl rfl | exact Or.inr rfl) (pe_op op_mod (pe_op op_mul (pv 4) (pv 4)) pe_int)))
                    (case r0xfxix =>
                      refine' pss_cons ?s0xfxixx ?r0xfxixx
                      (case s0xfxixx =>
                        exact (ps_expr (pe_bm PySem.F.plainAttrs_list PySem.F.slot_list_append PySem.F.type_list_append mt_append (pv 1) (pa_cons (pe_op op_mod (pe_op op_fdiv (pv 4) pe_int) pe_int) pa_nil))))
                      (case r0xfxixx =>
                        refine' pss_cons ?s0xfxixxx ?r0xfxixxx
                        (case s0xfxixxx =>
                          exact (ps_expr (pe_bm PySem.F.plainAttrs_list PySem.F.slot_list_append PySem.F.type_list_append mt_append (pv 1) (pa_cons (pe_op op_mod (pe_op op_fdiv (pv 4) pe_int) pe_int) pa_nil))))
                        (case r0xfxixxx =>
                          refine' pss_cons ?s0xfxixxxx ?r0xfxixxxx
                          (case s0xfxixxxx =>
                            exact (ps_set (i := 4) sc_law_draws.nd (by rfl) (by first | exact Or.inl rfl | exact Or.inr rfl) (pe_op op_mod (pe_op op_add (pv 4) (pe_op op_mul pe_int (pe_op op_add (pv 2) pe_int))) pe_int)))
                          (case r0xfxixxxx =>
                            refine' pss_one ?s0xfxixxxxx
                            (case s0xfxixxxxx =>
                              exact (ps_expr (pe_bm PySem.F.plainAttrs_list PySem.F.slot_list_append PySem.F.type_list_append mt_append (pv 1) (pa_cons (pe_op op_mod (pe_op op_fdiv (pe_op op_mod (pe_op op_mul (pv 4) (pv 4)) pe_int) pe_int) pe_int) pa_nil))))))))))
                (case b0xfx =>
                  refine' pss_cons ?s0xfxe ?r0xfxe
                  (case s0xfxe =>
                    exact (ps_set (i := 5) sc_law_draws.nd (by rfl) (by first | exact Or.inl rfl | exact Or.inr rfl) pe_int))
                  (case r0xfxe =>
                    refine' pss_one ?s0xfxex
                    (case s0xfxex =>
                      refine' ps_while PassesOwn.never ?c0xfxex ?d0xfxex
                      (case c0xfxex => exact (PW.pt (pw_and (pt_cmpR op_ge (pv 3) pe_int (nomark _)) (pw_and1 (pt_cmpR op_lt (pv 5) pe_int (nomark _))))))
                      (case d0xfxex =>
                        refine' pss_cons ?s0xfxexw ?r0xfxexw
                        (case s0xfxexw =>
                          exact (ps_expr (pe_bm PySem.F.plainAttrs_list PySem.F.slot_list_append PySem.F.type_list_append mt_append (pv 1) (pa_cons (pe_op op_mod (pv 3) pe_int) pa_nil))))
                        (case r0xfxexw =>
                          refine' pss_cons ?s0xfxexwx ?r0xfxexwx
                          (case s0xfxexwx =>
                            exact (ps_set (i := 3) sc_law_draws.nd (by rfl) (by first | exact Or.inl rfl | exact Or.inr rfl) (pe_op op_fdiv (pv 3) pe_int)))
                          (case r0xfxexwx =>
                            refine' pss_one ?s0xfxexwxx
                            (case s0xfxexwxx =>
                              exact (ps_set (i := 5) sc_law_draws.nd (by rfl) (by first | exact Or.inl rfl | exact Or.inr rfl) (pe_op op_add (pv 5) pe_int)))))))))))))
        (case r0x =>
          refine' pss_one ?s0xx
          (case s0xx =>
            exact (ps_ret (pe_slice sl_list (pv 1) po_none (po_some pe_int)))))))
    refine ⟨(by show 0 ≤ sizeLine; decide), fun D hD => ?_⟩
    have s0 := Same.new (o := .lst []) hD
    have c0 : upd H D (.lst []) D = some (.lst (([] : List Int).map V.int)) := upd_same
    generalize upd H D (.lst []) = H0 at s0 c0 ⊢
    dsimp only [gName]
    have szl : ∀ n : Nat, n ≤ 100000 → n < sizeLine := fun n h => by rw [sizeLine_eq]; omega
    have m1000 : ∀ x : Int, 0 ≤ x % 1000 ∧ x % 1000 < 1000 := fun x => ⟨Int.emod_nonneg _ (by decide), Int.emod_lt_of_pos _ (by decide)⟩
    have app : ∀ {ds : List Int} {d : Int}, (∀ x ∈ ds, 0 ≤ x ∧ x < 1000) → 0 ≤ d ∧ d < 1000 → ∀ x ∈ ds ++ [d], 0 ≤ x ∧ x < 1000 := fun h1 h2 x hx => by
      rcases List.mem_append.mp hx with z | z
      · exact h1 x z
      · rw [List.mem_singleton.mp z]; exact h2
    refine seqJ (fun σ' H' => ∃ (ds : List Int) (v2 v3 v4 v5 : Option V), σ' = [some (.ref a), some (.ref D), v2, v3, v4, v5] ∧ H' D = some (.lst (ds.map V.int)) ∧ (∀ d ∈ ds, 0 ≤ d ∧ d < 1000) ∧ Same H H') (fun fin => ?_) ?_
    · refine ⟨_, rfl, a, _, rfl, .inl (s0.seq hs), _, _, rfl, ?_⟩
      rw [List.length_map, if_neg (by omega)]
      refine ⟨_, rfl, by omega, by omega, ?_⟩
      refine for_range (lo := 0) (n := ns.length) (fun k σ H' => ∃ (ds : List Int) (v2 v3 v4 v5 : Option V), σ = [some (.ref a), some (.ref D), v2, v3, v4, v5] ∧ H' D = some (.lst (ds.map V.int)) ∧ ds.length ≤ 63 * k ∧ (∀ d ∈ ds, 0 ≤ d ∧ d < 1000) ∧ Same H H') ⟨[], _, _, _, _, rfl, c0, Nat.le_refl _, (fun d hd => nomatch hd), s0⟩ ?_ ?_
      · rintro k σ H1 hk ⟨ds, v2, v3, v4, v5, rfl, c1, dl, hd, k1⟩
        have hat : atI (ns.map V.int) (0 + (k : Nat)) = some (.int (vl ns k)) := by rw [Int.zero_add]; exact at_vl hk
        refine ⟨_, rfl, _, rfl, a, _, _, _, rfl, rfl, k1.seq hs, hat, _, rfl, ?_⟩
        have hr0 : 0 ≤ (if vl ns k < 0 then -vl ns k else vl ns k) := by split <;> omega
        generalize (if vl ns k < 0 then -vl ns k else vl ns k) = rest at hr0 ⊢
        dsimp only [gName]
        refine ⟨_, rfl, _, _, rfl, rfl, ⟨by decide, by decide, by decide⟩, _, _, rfl, rfl, _, rfl, ?_⟩
        refine ite2 (fun z => ?_) (fun z => ?_)
        · -- a small one: three draws
          refine ⟨_, rfl, _, rfl, _, _, rfl, rfl, .inl ⟨by decide, by decide⟩, _, _, rfl, rfl, _, _, rfl, rfl, _, _, rfl, rfl, (by show (0 : Int) < _; decide), _, _, rfl, rfl, .inr ⟨by decide, by decide⟩, _, _, rfl, rfl, (by show (0 : Int) < _; decide), ?_⟩
          dsimp only [gName]
          have b1 : 0 ≤ (rest + 7919 * (0 + (k : Int)) + 3) % 2147483647 * 48271 % 2147483647 ∧ (rest + 7919 * (0 + (k : Int)) + 3) % 2147483647 * 48271 % 2147483647 < 2147483647 := ⟨Int.emod_nonneg _ (by decide), Int.emod_lt_of_pos _ (by decide)⟩
          generalize (rest + 7919 * (0 + (k : Int)) + 3) % 2147483647 * 48271 % 2147483647 = st1 at b1 ⊢
          refine ⟨_, rfl, _, rfl, _, _, rfl, rfl, .inl ⟨by omega, by omega⟩, _, _, rfl, rfl, (by show (0 : Int) < _; decide), ?_⟩
          dsimp only [gName]
          have b2 : 0 ≤ st1 * st1 % 2147483629 ∧ st1 * st1 % 2147483629 < 2147483629 := ⟨Int.emod_nonneg _ (by decide), Int.emod_lt_of_pos _ (by decide)⟩
          generalize st1 * st1 % 2147483629 = st2 at b2 ⊢
          refine ⟨_, rfl, .inl ⟨rfl, _, SqL.of c1⟩, _, rfl, _, _, rfl, rfl, ⟨by decide, by decide⟩, _, _, rfl, rfl, (by show (0 : Int) < _; decide), D, _, _, rfl, rfl, c1, szl _ (by rw [List.length_map]; omega), ?_⟩
          dsimp only
          have c2 : upd H1 D (.lst (ds.map V.int ++ [.int (st2 / 16 % 1000)])) D = some (.lst ((ds ++ [st2 / 16 % 1000]).map V.int)) := by rw [upd_same, List.map_append]; rfl
          have k2 : Same H (upd H1 D (.lst (ds.map V.int ++ [.int (st2 / 16 % 1000)]))) := k1.at hD
          generalize upd H1 D (.lst (ds.map V.int ++ [.int (st2 / 16 % 1000)])) = H2 at c2 k2 ⊢
          refine ⟨_, rfl, .inl ⟨rfl, _, SqL.of c2⟩, _, rfl, _, _, rfl, rfl, ⟨by decide, by decide⟩, _, _, rfl, rfl, (by show (0 : Int) < _; decide), D, _, _, rfl, rfl, c2, szl _ (by rw [List.length_map, List.length_append]; show ds.length + 1 ≤ _; omega), ?_⟩
          dsimp only
          have c3 : upd H2 D (.lst ((ds ++ [st2 / 16 % 1000]).map V.int ++ [.int (st2 / 16000 % 1000)])) D = some (.lst ((ds ++ [st2 / 16 % 1000] ++ [st2 / 16000 % 1000]).map V.int)) := by rw [upd_same, List.map_append (l₁ := ds ++ _)]; rfl
          have k3 : Same H (upd H2 D (.lst ((ds ++ [st2 / 16 % 1000]).map V.int ++ [.int (st2 / 16000 % 1000)]))) := k2.at hD
          generalize upd H2 D (.lst ((ds ++ [st2 / 16 % 1000]).map V.int ++ [.int (st2 / 16000 % 1000)])) = H3 at c3 k3 ⊢
          refine ⟨_, rfl, _, rfl, _, _, rfl, rfl, _, _, rfl, rfl, .inl ⟨by decide, by decide⟩, _, _, rfl, rfl, _, _, rfl, rfl, (by show (0 : Int) < _; decide), ?_⟩
          dsimp only [gName]
          have b3 : 0 ≤ (st2 + 40692 * (0 + (k : Int) + 7)) % 2147483587 ∧ (st2 + 40692 * (0 + (k : Int) + 7)) % 2147483587 < 2147483587 := ⟨Int.emod_nonneg _ (by decide), Int.emod_lt_of_pos _ (by decide)⟩
          generalize (st2 + 40692 * (0 + (k : Int) + 7)) % 2147483587 = st3 at b3 ⊢
          refine ⟨_, rfl, .inl ⟨rfl, _, SqL.of c3⟩, _, rfl, _, rfl, _, _, rfl, rfl, .inl ⟨by omega, by omega⟩, _, _, rfl, rfl, (by show (0 : Int) < _; decide), _, _, rfl, rfl, ⟨by decide, by decide⟩, _, _, rfl, rfl, (by show (0 : Int) < _; decide), D, _, _, rfl, rfl, c3, szl _ (by rw [List.length_map, List.length_append, List.length_append]; show ds.length + 1 + 1 ≤ _; omega), ?_⟩
          refine ⟨ds ++ [st2 / 16 % 1000] ++ [st2 / 16000 % 1000] ++ [st3 * st3 % 2147483647 / 16 % 1000], _, _, _, _, rfl, ?_, ?_, app (app (app hd (m1000 _)) (m1000 _)) (m1000 _), k3.at hD⟩
          · rw [upd_same, List.map_append (l₁ := ds ++ [st2 / 16 % 1000] ++ [st2 / 16000 % 1000])]; rfl
          · rw [List.length_append, List.length_append, List.length_append]; show ds.length + 1 + 1 + 1 ≤ 63 * (k + 1); omega
        · -- a great one
          refine ⟨fun mm σ' H' => ∃ (rest m : Int) (es : List Int) (v4 : Option V), mm = (60 - m).toNat ∧ σ' = [some (.ref a), some (.ref D), some (.int (0 + (k : Nat))), some (.int rest), v4, some (.int m)] ∧ 0 ≤ m ∧ m ≤ 60 ∧ 0 ≤ rest ∧ H' D = some (.lst (es.map V.int)) ∧ (es.length : Int) ≤ 63 * k + m ∧ (∀ d ∈ es, 0 ≤ d ∧ d < 1000) ∧ Same H H', ⟨_, rest, 0, ds, _, rfl, rfl, by decide, by decide, hr0, c1, by omega, hd, k1⟩, ?_⟩
          clear c1 dl hd k1
          rintro mm σ' H2 ⟨rest, m, es, v4, rfl, rfl, m0, m1, r0, c2, el, he, k2⟩
          refine ⟨_, rfl, _, _, rfl, rfl, _, rfl, ?_⟩
          refine ite2 (fun z1 => ?_) (fun z1 => ?_)
          · refine ⟨_, rfl, _, _, rfl, rfl, _, rfl, ?_⟩
            refine ite2 (fun z2 => ?_) (fun z2 => ?_)
            · have z2' : m < 60 := of_decide_eq_true z2
              refine ⟨_, fun σ' H' y => y, ?_⟩
              refine ⟨_, rfl, .inl ⟨rfl, _, SqL.of c2⟩, _, rfl, _, _, rfl, rfl, (by show (0 : Int) < _; decide), D, _, _, rfl, rfl, c2, szl _ (by rw [List.length_map]; omega), ?_⟩
              refine ⟨_, rfl, _, _, rfl, rfl, ⟨by decide, by decide⟩, ?_⟩
              dsimp only [gName]
              refine ⟨_, rfl, _, _, rfl, rfl, ?_⟩
              refine ⟨(60 - (m + 1)).toNat, by omega, rest / 1000, m + 1, es ++ [rest % 1000], _, rfl, rfl, by omega, by omega, Int.ediv_nonneg r0 (by decide), ?_, ?_, app he (m1000 _), k2.at hD⟩
              · rw [upd_same, List.map_append]; rfl
              · rw [List.length_append]; show ((es.length + 1 : Nat) : Int) ≤ _; omega
            · exact ⟨es, _, _, _, _, rfl, c2, by omega, he, k2⟩
          · exact ⟨es, _, _, _, _, rfl, c2, by omega, he, k2⟩
      · rintro σ H1 ⟨ds, v2, v3, v4, v5, rfl, c1, dl, hd, k1⟩
        exact fin _ _ ⟨ds, _, _, _, _, rfl, c1, hd, k1⟩
    rintro σ1 H1 ⟨ds, v2, v3, v4, v5, rfl, c1, hd, k1⟩
    refine ⟨_, rfl, _, rfl, D, _, rfl, SqL.of c1, fun p hp => ?_⟩
    rw [cut_ints]
    refine q p _ (k1.free hp) (k1.trans (Same.new hp)) ⟨cutI ds none (some 240), upd_same, ?_, fun d h => hd d (cutI_mem h)⟩
    rw [cutI_to _ _ (by decide), List.length_take]
    exact Nat.min_le_left _ _
def x_law_take : { t : Stmt // top 5 = t } := ⟨_, by conv => { lhs; whnf }⟩
abbrev s_law_take : Stmt := x_law_take.1
theorem sc_law_take : FnScope ["draws", "many"] ["draws", "many"] (defScope s_law_take) := ⟨rfl, rfl, rfl, by decide +kernel, rfl, by decide +kernel, by decide +kernel⟩
theorem fn_take (B : Bl mg bls) (D : DefAt K mg "_law_take" s_law_take ["draws", "many"]) : Fn P w K mg base 1 "_law_take" ["draws", "many"] spTake := by
  refine D.fn sc_law_take (fun vs H Q E h => ?_) (fun f cdv A outer s H vs Q E hr h => ?_)
  · obtain ⟨p, many, rfl, _⟩ := h; rfl
  · obtain ⟨p, many, rfl, ⟨ds, c, dl, hd⟩, hm, q⟩ := h
    refine' ⟨_, ?tm, ?rd⟩
    (case tm =>
      (conv => { arg 2; whnf })
      refine' pss_cons ?s0 ?r0
      (case s0 =>
        refine' ps_if ?c0 ?a0 ?b0
        (case c0 => exact (pt_cmpR (op_eqLI hr.units) (pv 0) (pe_lst pa_nil) (nomark _)))
        (case a0 =>
          refine' pss_one ?s0i
          (case s0i =>
            exact (ps_ret pe_int)))
        (case b0 =>
          exact pss_nil))
      (case r0 =>
        refine' pss_one ?s0x
        (case s0x =>
          exact (ps_ret (pe_op op_mod (pe_bm PySem.F.plainAttrs_list PySem.F.slot_list_pop PySem.F.type_list_pop mt_popAt (pv 0) (pa_cons pe_int pa_nil)) (pv 1))))))
    refine ⟨_, rfl, (by show 0 ≤ sizeLine; decide), fun q1 hq1 => ?_⟩
    have s1 := Same.new (o := .lst []) hq1
    have c1 := s1 _ _ c
    refine ⟨p, q1, ds, [], rfl, rfl, SqL.of c1, SqL.of upd_same, _, rfl, ?_⟩
    generalize upd H q1 (.lst []) = H1 at s1 c1 ⊢
    refine ite2 (fun z => ?_) (fun z => ?_)
    · exact q 0 H1 (by decide) hm (by decide) ⟨ds, c1, dl, hd⟩ s1.but
    · have hne : ds ≠ [] := by simpa using z
      cases ds with
      | nil => exact absurd rfl hne
      | cons d r =>
        have hd0 := hd d List.mem_cons_self
        refine ⟨_, rfl, .inl ⟨rfl, _, SqL.of c1⟩, p, _, 0, 0, .int d, rfl, rfl, c1, by decide, by decide, ?_, rfl, _, rfl, _, _, rfl, rfl, hm, ?_⟩
        · unfold seqIndex?
          simp
        · refine q _ _ (Int.emod_nonneg _ (by omega)) (Int.emod_lt_of_pos _ hm) ?_ ⟨r, ?_, ?_, fun x hx => hd x (List.mem_cons_of_mem _ hx)⟩ (s1.but.trans (But.upd _))
          · by_cases h : d < many
            · rw [Int.emod_eq_of_lt hd0.1 h]; omega
            · have := Int.emod_lt_of_pos d hm; omega
          · rw [upd_same]; rfl
          · simp at dl; omega
end

end Law

set_option Elab.async false
set_option linter.all false
set_option maxRecDepth 100000
set_option maxHeartbeats 4000000
namespace Law
open PySem L2
def B13 (n : Int) : Prop := -10000000000000 ≤ n ∧ n ≤ 10000000000000
def spRow37 : Sp := fun vs H Q _ => ∃ (p : Addr) (most : Int), vs = [.ref p, .int most] ∧ Draws H p ∧ 0 ≤ most ∧ most ≤ 300 ∧ ∀ (a : Addr) (H' : Hp) (ns : List Int), H a = none → a ≠ p → But p H H' → Draws H' p → H' a = some (.lst (ns.map V.int)) → ns.length ≤ most.toNat → (∀ n ∈ ns, B13 n) → Q (.ref a) H'
abbrev BLs : List Int := [1, 2, 3, 10, 1000, 100000, 1000000000, 2000000000001]
theorem bls_bd {v : Int} (h : v ∈ BLs) : 1 ≤ v ∧ v ≤ 2000000000001 := by
  have h' : v = 1 ∨ v = 2 ∨ v = 3 ∨ v = 10 ∨ v = 1000 ∨ v = 100000 ∨ v = 1000000000 ∨ v = 2000000000001 := by simpa using h
  omega
theorem b2i_bd (b : Bool) : (0 : Int) ≤ (if b = true then 1 else 0) ∧ (if b = true then (1 : Int) else 0) < 2 := by cases b <;> decide
theorem num_bd {turn base : Int} (h0 : 0 ≤ turn) (h1 : turn < 9973) (b0 : 1 ≤ base) (b1 : base ≤ 2000000000001) : 0 ≤ turn * (base / 9973) ∧ turn * (base / 9973) ≤ 2000000000000 := by
  have q0 : 0 ≤ base / 9973 := Int.ediv_nonneg (by omega) (by decide)
  have q1 : base / 9973 ≤ 200541462 := by omega
  refine ⟨Int.mul_nonneg h0 q0, ?_⟩
  have := Int.mul_le_mul (show turn ≤ 9972 by omega) q1 q0 (by decide)
  omega
section
variable {P : Program} {w : World} {K : PySem.W.Frag} {mg : Str → Option Value} {base : Heap}
def x_law_row : { t : Stmt // top 6 = t } := ⟨_, by conv => { lhs; whnf }⟩
abbrev s_law_row : Stmt := x_law_row.1
theorem sc_law_row : FnScope ["draws", "most", "many", "bases", "base", "mixed", "wide", "top", "low", "one", "other", "third", "free", "likes", "found", "k", "at", "turn", "number", "shape"] ["draws", "most"] (defScope s_law_row) := ⟨rfl, rfl, rfl, by decide +kernel, rfl, by decide +kernel, by decide +kernel⟩
theorem fn_row37 (B : Bl mg bls) (D : DefAt K mg "_law_row" s_law_row ["draws", "most"]) (F_law_take : Fn P w K mg base 1 "_law_take" ["draws", "many"] spTake) : Fn P w K mg base 2 "_law_row" ["draws", "most"] spRow37 := by
  refine D.fn sc_law_row (fun vs H Q E h => ?_) (fun f cdv A outer s H vs Q E hr h => ?_)
  · obtain ⟨p, most, rfl, _⟩ := h; rfl
  · obtain ⟨p, most, rfl, hD, hm0, hm1, q⟩ := h
    refine' ⟨_, ?tm, ?rd⟩
    (case tm =>
      (conv => { arg 2; whnf })
      refine' pss_cons ?s0 ?r0
      (case s0 =>
        exact (ps_set (i := 2) sc_law_row.nd (by rfl) (by first | exact Or.inl rfl | exact Or.inr rfl) (pe_callB (call_min2 rfl) (by rfl) (B "min" (by decide +kernel)) (by decide +kernel) (pa_cons (pv 1) (pa_cons (pe_fn F_law_take hr (by rfl) (pa_cons (pv 0) (pa_cons pe_int pa_nil))) pa_nil)))))
      (case r0 =>
        refine' pss_cons ?s0x ?r0x
        (case s0x =>
          refine' ps_if ?c0x ?a0x ?b0x
          (case c0x => exact (pt_cmpR op_eq (pe_fn F_law_take hr (by rfl) (pa_cons (pv 0) (pa_cons pe_int pa_nil))) pe_int (nomark _)))
          (case a0x =>
            refine' pss_one ?s0xi
            (case s0xi =>
              exact (ps_set (i := 2) sc_law_row.nd (by rfl) (by first | exact Or.inl rfl | exact Or.inr rfl) (pe_ix ix_list (pe_lst (pa_cons (pv 1) (pa_cons (pe_fn F_law_take hr (by rfl) (pa_cons (pv 0) (pa_cons (pe_op op_add (pv 1) pe_int) pa_nil))) pa_nil))) (pe_fn F_law_take hr (by rfl) (pa_cons (pv 0) (pa_cons pe_int pa_nil))) (fun _ _ => rfl)))))
          (case b0x =>
            exact pss_nil))
        (case r0x =>
          refine' pss_cons ?s0xx ?r0xx
          (case s0xx =>
            exact (ps_set (i := 3) sc_law_row.nd (by rfl) (by first | exact Or.inl rfl | exact Or.inr rfl) (pe_lst (pa_cons pe_int (pa_cons pe_int (pa_cons pe_int (pa_cons pe_int (pa_cons pe_int (pa_cons (pe_op op_pow pe_int pe_int) (pa_cons (pe_op op_pow pe_int pe_int) (pa_cons (pe_op op_add (pe_op op_mul pe_int (pe_op op_pow pe_int pe_int)) pe_int) pa_nil)))))))))))
          (case r0xx =>
            refine' pss_cons ?s0xxx ?r0xxx
            (case s0xxx =>
              exact (ps_set (i := 4) sc_law_row.nd (by rfl) (by first | exact Or.inl rfl | exact Or.inr rfl) (pe_ix ix_list (pv 3) (pe_fn F_law_take hr (by rfl) (pa_cons (pv 0) (pa_cons pe_int pa_nil))) (fun _ _ => rfl))))
            (case r0xxx =>
              refine' pss_cons ?s0xxxx ?r0xxxx
              (case s0xxxx =>
                exact (ps_set (i := 5) sc_law_row.nd (by rfl) (by first | exact Or.inl rfl | exact Or.inr rfl) (pe_cmpR op_eq (pe_fn F_law_take hr (by rfl) (pa_cons (pv 0) (pa_cons pe_int pa_nil))) pe_int (nomark _))))
              (case r0xxxx =>
                refine' pss_cons ?s0xxxxx ?r0xxxxx
                (case s0xxxxx =>
                  exact (ps_set (i := 6) sc_law_row.nd (by rfl) (by first | exact Or.inl rfl | exact Or.inr rfl) (pe_ix ix_list (pe_lst (pa_cons (pv 4) (pa_cons (pe_ix ix_list (pv 3) pe_int (fun _ _ => rfl)) pa_nil))) (pe_callTy call_int1 (by rfl) (B "int" (by decide +kernel)) (by decide +kernel) (pa_cons (pv 5) pa_nil)) (fun _ _ => rfl))))
                (case r0xxxxx =>
                  refine' pss_cons ?s0xxxxxx ?r0xxxxxx
                  (case s0xxxxxx =>
                    exact (ps_set (i := 7) sc_law_row.nd (by rfl) (by first | exact Or.inl rfl | exact Or.inr rfl) (pe_op op_add (pe_op op_sub (pe_op op_pow pe_int pe_int) (pv 6)) pe_int)))
                  (case r0xxxxxx =>
                    refine' pss_cons ?s0xxxxxxx ?r0xxxxxxx
                    (case s0xxxxxxx =>
                      exact (ps_set (i := 8) sc_law_row.nd (by rfl) (by first | exact Or.inl rfl | exact Or.inr rfl) (pe_ix ix_list (pe_lst (pa_cons (pe_op op_sub pe_int (pe_op op_fdiv (pv 6) pe_int)) (pa_cons (pe_op op_sub pe_int (pe_op op_pow pe_int pe_int)) (pa_cons (pv 7) (pa_cons (pe_callB (call_min2 rfl) (by rfl) (B "min" (by decide +kernel)) (by decide +kernel) (pa_cons pe_int (pa_cons (pv 7) pa_nil))) pa_nil))))) (pe_fn F_law_take hr (by rfl) (pa_cons (pv 0) (pa_cons pe_int pa_nil))) (fun _ _ => rfl))))
                    (case r0xxxxxxx =>
                      refine' pss_cons ?s0xxxxxxxx ?r0xxxxxxxx
                      (case s0xxxxxxxx =>
                        exact (ps_set (i := 9) sc_law_row.nd (by rfl) (by first | exact Or.inl rfl | exact Or.inr rfl) (pe_fn F_law_take hr (by rfl) (pa_cons (pv 0) (pa_cons pe_int pa_nil)))))
                      (case r0xxxxxxxx =>
                        refine' pss_cons ?s0xxxxxxxxx ?r0xxxxxxxxx
                        (case s0xxxxxxxxx =>
                          exact (ps_set (i := 10) sc_law_row.nd (by rfl) (by first | exact Or.inl rfl | exact Or.inr rfl) (pe_op op_add pe_int (pe_fn F_law_take hr (by rfl) (pa_cons (pv 0) (pa_cons pe_int pa_nil))))))
                        (case r0xxxxxxxxx =>
                          refine' pss_cons ?s0xxxxxxxxxx ?r0xxxxxxxxxx
                          (case s0xxxxxxxxxx =>
                            exact (ps_set (i := 11) sc_law_row.nd (by rfl) (by first | exact Or.inl rfl | exact Or.inr rfl) (pe_fn F_law_take hr (by rfl) (pa_cons (pv 0) (pa_cons pe_int pa_nil)))))
                          (case r0xxxxxxxxxx =>
                            refine' pss_cons ?s0xxxxxxxxxxx ?r0xxxxxxxxxxx
                            (case s0xxxxxxxxxxx =>
                              exact (ps_set (i := 12) sc_law_row.nd (by rfl) (by first | exact Or.inl rfl | exact Or.inr rfl) (pe_cmpR op_eq (pe_fn F_law_take hr (by rfl) (pa_cons (pv 0) (pa_cons pe_int pa_nil))) pe_int (nomark _))))
                            (case r0xxxxxxxxxxx =>
                              refine' pss_cons ?s0xxxxxxxxxxxx ?r0xxxxxxxxxxxx
                              (case s0xxxxxxxxxxxx =>
                                exact (ps_set (i := 13) sc_law_row.nd (by rfl) (by first | exact Or.inl rfl | exact Or.inr rfl) (pe_ix ix_list (pe_lst (pa_cons pe_int (pa_cons pe_int (pa_cons (pe_op op_add pe_int (pe_fn F_law_take hr (by rfl) (pa_cons (pv 0) (pa_cons pe_int pa_nil)))) pa_nil)))) (pe_fn F_law_take hr (by rfl) (pa_cons (pv 0) (pa_cons pe_int pa_nil))) (fun _ _ => rfl))))
                              (case r0xxxxxxxxxxxx =>
                                refine' pss_cons ?s0xxxxxxxxxxxxx ?r0xxxxxxxxxxxxx
                                (case s0xxxxxxxxxxxxx =>
                                  exact (ps_set (i := 14) sc_law_row.nd (by rfl) (by first | exact Or.inl rfl | exact Or.inr rfl) (pe_lst pa_nil)))
                                (case r0xxxxxxxxxxxxx =>
                                  refine' pss_cons ?s0xxxxxxxxxxxxxx ?r0xxxxxxxxxxxxxx
                                  (case s0xxxxxxxxxxxxxx =>
                                    refine' ps_for PassesOwn.never (by rfl) ?i0xxxxxxxxxxxxxx ?g0xxxxxxxxxxxxxx ?d0xxxxxxxxxxxxxx
                                    (case i0xxxxxxxxxxxxxx => exact (pi_range1 (by rfl) (B "range" (by decide +kernel)) (pa_cons (pv 2) pa_nil)))
                                    (case g0xxxxxxxxxxxxxx => exact (pg_name (i := 15) sc_law_row.nd (by rfl) (by first | exact Or.inl rfl | exact Or.inr rfl)))
                                    (case d0xxxxxxxxxxxxxx =>
                                      refine' pss_cons ?s0xxxxxxxxxxxxxxf ?r0xxxxxxxxxxxxxxf
                                      (case s0xxxxxxxxxxxxxxf =>
                                        exact (ps_set (i := 16) sc_law_row.nd (by rfl) (by first | exact Or.inl rfl | exact Or.inr rfl) (pe_op op_fdiv (pv 15) (pv 13))))
                                      (case r0xxxxxxxxxxxxxxf =>
                                        refine' pss_cons ?s0xxxxxxxxxxxxxxfx ?r0xxxxxxxxxxxxxxfx
                                        (case s0xxxxxxxxxxxxxxfx =>
                                          exact (ps_set (i := 17) sc_law_row.nd (by rfl) (by first | exact Or.inl rfl | exact Or.inr rfl) (pe_op op_mod (pe_op op_add (pe_op op_add (pe_op op_add (pe_op op_mul (pe_op op_mul (pv 16) (pv 16)) (pv 9)) (pe_op op_mul (pv 16) (pv 10))) (pe_op op_mul (pe_op op_fdiv (pv 16) pe_int) pe_int)) (pv 11)) pe_int)))
                                        (case r0xxxxxxxxxxxxxxfx =>
                                          refine' pss_cons ?s0xxxxxxxxxxxxxxfxx ?r0xxxxxxxxxxxxxxfxx
                                          (case s0xxxxxxxxxxxxxxfxx =>
                                            refine' ps_if ?c0xxxxxxxxxxxxxxfxx ?a0xxxxxxxxxxxxxxfxx ?b0xxxxxxxxxxxxxxfxx
                                            (case c0xxxxxxxxxxxxxxfxx => exact (pt_val (pv 5)))
                                            (case a0xxxxxxxxxxxxxxfxx =>
                                              refine' pss_one ?s0xxxxxxxxxxxxxxfxxi
                                              (case s0xxxxxxxxxxxxxxfxxi =>
                                                exact (ps_set (i := 4) sc_law_row.nd (by rfl) (by first | exact Or.inl rfl | exact Or.inr rfl) (pe_ix ix_list (pv 3) (pe_op op_mod (pe_op op_add (pv 17) (pe_op op_mul (pv 16) (pv 16))) pe_int) (fun _ _ => rfl)))))
                                            (case b0xxxxxxxxxxxxxxfxx =>
                                              exact pss_nil))
                                          (case r0xxxxxxxxxxxxxxfxx =>
                                            refine' pss_cons ?s0xxxxxxxxxxxxxxfxxx ?r0xxxxxxxxxxxxxxfxxx
                                            (case s0xxxxxxxxxxxxxxfxxx =>
                                              refine' ps_if ?c0xxxxxxxxxxxxxxfxxx ?a0xxxxxxxxxxxxxxfxxx ?b0xxxxxxxxxxxxxxfxxx
                                              (case c0xxxxxxxxxxxxxxfxxx => exact (PW.pt (pw_or (pt_cmpR op_lt (pv 2) pe_int (nomark _)) (pw_or1 (PW.pt (pw_and (pt_val (pv 12)) (pw_and1 (pt_cmpR op_gt (pe_callB call_len_seq (by rfl) (B "len" (by decide +kernel)) (by decide +kernel) (pa_cons (pv 0) pa_nil)) pe_int (nomark _)))))))))
                                              (case a0xxxxxxxxxxxxxxfxxx =>
                                                refine' pss_one ?s0xxxxxxxxxxxxxxfxxxi
                                                (case s0xxxxxxxxxxxxxxfxxxi =>
                                                  exact (ps_set (i := 17) sc_law_row.nd (by rfl) (by first | exact Or.inl rfl | exact Or.inr rfl) (pe_fn F_law_take hr (by rfl) (pa_cons (pv 0) (pa_cons pe_int pa_nil))))))
                                              (case b0xxxxxxxxxxxxxxfxxx =>
                                                exact pss_nil))
                                            (case r0xxxxxxxxxxxxxxfxxx =>
                                              refine' pss_cons ?s0xxxxxxxxxxxxxxfxxxx ?r0xxxxxxxxxxxxxxfxxxx
                                              (case s0xxxxxxxxxxxxxxfxxxx =>
                                                exact (ps_set (i := 18) sc_law_row.nd (by rfl) (by first | exact Or.inl rfl | exact Or.inr rfl) (pe_ix ix_list (pe_lst (pa_cons (pe_op op_mod (pv 17) (pv 4)) (pa_cons (pe_op op_add (pe_op op_mul (pv 17) (pe_op op_fdiv (pv 4) pe_int)) (pe_op op_mod (pv 17) pe_int)) pa_nil))) (pe_callTy call_int1 (by rfl) (B "int" (by decide +kernel)) (by decide +kernel) (pa_cons (pe_cmpR op_gt (pv 4) pe_int (nomark _)) pa_nil)) (fun _ _ => rfl))))
                                              (case r0xxxxxxxxxxxxxxfxxxx =>
                                                refine' pss_one ?s0xxxxxxxxxxxxxxfxxxxx
                                                (case s0xxxxxxxxxxxxxxfxxxxx =>
                                                  exact (ps_expr (pe_bm PySem.F.plainAttrs_list PySem.F.slot_list_append PySem.F.type_list_append mt_append (pv 14) (pa_cons (pe_op op_add (pv 8) (pe_ix ix_list (pe_lst (pa_cons (pv 18) (pa_cons (pe_op op_sub (pv 4) pe_int) pa_nil))) (pe_callTy call_int1 (by rfl) (B "int" (by decide +kernel)) (by decide +kernel) (pa_cons (pe_cmpR op_eq (pe_op op_mod (pv 17) pe_int) pe_int (nomark _)) pa_nil)) (fun _ _ => rfl))) pa_nil)))))))))))
                                  (case r0xxxxxxxxxxxxxx =>
                                    refine' pss_cons ?s0xxxxxxxxxxxxxxx ?r0xxxxxxxxxxxxxxx
                                    (case s0xxxxxxxxxxxxxxx =>
                                      exact (ps_set (i := 19) sc_law_row.nd (by rfl) (by first | exact Or.inl rfl | exact Or.inr rfl) (pe_fn F_law_take hr (by rfl) (pa_cons (pv 0) (pa_cons pe_int pa_nil)))))
                                    (case r0xxxxxxxxxxxxxxx =>
                                      refine' pss_cons ?s0xxxxxxxxxxxxxxxx ?r0xxxxxxxxxxxxxxxx
                                      (case s0xxxxxxxxxxxxxxxx =>
                                        refine' ps_if ?c0xxxxxxxxxxxxxxxx ?a0xxxxxxxxxxxxxxxx ?b0xxxxxxxxxxxxxxxx
                                        (case c0xxxxxxxxxxxxxxxx => exact (pt_cmpR op_eq (pv 19) pe_int (nomark _)))
                                        (case a0xxxxxxxxxxxxxxxx =>
                                          refine' pss_one ?s0xxxxxxxxxxxxxxxxi
                                          (case s0xxxxxxxxxxxxxxxxi =>
                                            exact (ps_ret (pe_callB cr_sortedA (by rfl) (B "sorted" (by decide +kernel)) (by decide +kernel) (pa_cons (pv 14) pa_nil)))))
                                        (case b0xxxxxxxxxxxxxxxx =>
                                          exact pss_nil))
                                      (case r0xxxxxxxxxxxxxxxx =>
                                        refine' pss_cons ?s0xxxxxxxxxxxxxxxxx ?r0xxxxxxxxxxxxxxxxx
                                        (case s0xxxxxxxxxxxxxxxxx =>
                                          refine' ps_if ?c0xxxxxxxxxxxxxxxxx ?a0xxxxxxxxxxxxxxxxx ?b0xxxxxxxxxxxxxxxxx
                                          (case c0xxxxxxxxxxxxxxxxx => exact (pt_cmpR op_eq (pv 19) pe_int (nomark _)))
                                          (case a0xxxxxxxxxxxxxxxxx =>
                                            refine' pss_one ?s0xxxxxxxxxxxxxxxxxi
                                            (case s0xxxxxxxxxxxxxxxxxi =>
                                              exact (ps_ret (pe_rev (pe_callB cr_sortedA (by rfl) (B "sorted" (by decide +kernel)) (by decide +kernel) (pa_cons (pv 14) pa_nil))))))
                                          (case b0xxxxxxxxxxxxxxxxx =>
                                            exact pss_nil))
                                        (case r0xxxxxxxxxxxxxxxxx =>
                                          refine' pss_cons ?s0xxxxxxxxxxxxxxxxxx ?r0xxxxxxxxxxxxxxxxxx
                                          (case s0xxxxxxxxxxxxxxxxxx =>
                                            refine' ps_if ?c0xxxxxxxxxxxxxxxxxx ?a0xxxxxxxxxxxxxxxxxx ?b0xxxxxxxxxxxxxxxxxx
                                            (case c0xxxxxxxxxxxxxxxxxx => exact (pt_cmpR op_eq (pv 19) pe_int (nomark _)))
                                            (case a0xxxxxxxxxxxxxxxxxx =>
                                              refine' pss_one ?s0xxxxxxxxxxxxxxxxxxi
                                              (case s0xxxxxxxxxxxxxxxxxxi =>
                                                exact (ps_ret (pe_op op_cat (pe_callB cr_sortedA (by rfl) (B "sorted" (by decide +kernel)) (by decide +kernel) (pa_cons (pe_step (pv 14) po_none po_none (by decide)) pa_nil)) (pe_rev (pe_callB cr_sortedA (by rfl) (B "sorted" (by decide +kernel)) (by decide +kernel) (pa_cons (pe_step (pv 14) (po_some pe_int) po_none (by decide)) pa_nil)))))))
                                            (case b0xxxxxxxxxxxxxxxxxx =>
                                              exact pss_nil))
                                          (case r0xxxxxxxxxxxxxxxxxx =>
                                            refine' pss_one ?s0xxxxxxxxxxxxxxxxxxx
                                            (case s0xxxxxxxxxxxxxxxxxxx =>
                                              exact (ps_ret (pv 14)))))))))))))))))))))))
    refine seqJ (fun σ' H' => ∃ many : Int, σ' = [some (.ref p), some (.int most), some (.int many), none, none, none, none, none, none, none, none, none, none, none, none, none, none, none, none, none] ∧ 0 ≤ many ∧ many ≤ most ∧ But p H H' ∧ Draws H' p) (fun fin => ?_) ?_
    · refine ⟨_, rfl, _, rfl, p, _, rfl, hD, by decide, fun g1 H1 a1 b1 _ hD1 k1 => ⟨_, _, rfl, ?_⟩⟩
      refine fin _ _ ⟨_, rfl, ?_, ?_, k1, hD1⟩
      · split <;> omega
      · split <;> omega
    clear hD
    rintro _ H1 ⟨many, rfl, n0, n1, k1, hD1⟩
    refine seqJ (fun σ' H' => ∃ many : Int, σ' = [some (.ref p), some (.int most), some (.int many), none, none, none, none, none, none, none, none, none, none, none, none, none, none, none, none, none] ∧ 0 ≤ many ∧ many ≤ most ∧ But p H H' ∧ Draws H' p) (fun fin => ?_) ?_
    · refine ⟨_, rfl, p, _, rfl, hD1, by decide, fun g1 H2 a1 b1 _ hD2 k2 => ?_⟩
      refine ⟨rfl, _, rfl, ?_⟩
      refine ite2 (fun _ => ?_) (fun _ => fin _ _ ⟨many, rfl, n0, n1, k1.trans k2, hD2⟩)
      refine ⟨_, rfl, _, rfl, _, rfl, _, _, rfl, rfl, p, _, rfl, hD2, by omega, fun g2 H3 a2 b2 _ hD3 k3 => ?_⟩
      refine ⟨(by show 2 ≤ sizeLine; decide), fun q1 hq1 => ?_⟩
      have nq := hD3.ne hq1
      refine ⟨_, rfl, p, _, rfl, hD3.new hq1, by decide, fun g3 H4 a3 b3 _ hD4 k4 => ?_⟩
      obtain ⟨v, hv, ev⟩ := at_pick (ns := [most, g2]) a3 b3
      have hv' : v = most ∨ v = g2 := by simpa using hv
      exact ⟨_, _, _, _, rfl, rfl, SqL.of (k4 _ _ nq upd_same), ev, fin _ _ ⟨v, rfl, by omega, by omega, (((k1.trans k2).trans k3).trans (But.new hq1)).trans k4, hD4⟩⟩
    clear hD1 k1 n0 n1 many H1
    rintro _ H1 ⟨many, rfl, n0, n1, k1, hD1⟩
    -- bases
    refine ⟨_, _, rfl, rfl, ⟨by decide, by decide, by decide⟩, _, _, rfl, rfl, ⟨by decide, by decide, by decide⟩, _, _, rfl, rfl, ⟨by decide, by decide, by decide⟩, _, _, rfl, rfl, .inl ⟨by decide, by decide⟩, _, _, rfl, rfl, (by show 8 ≤ sizeLine; decide), fun Bs hBs => ?_⟩
    have nB := hD1.ne hBs
    have fB : H Bs = none := free_of_but k1 hD1.some hBs
    have k2 := k1.trans (But.new (p := p) (o := .lst (BLs.map V.int)) hBs)
    have hD2 := hD1.new (o := .lst (BLs.map V.int)) hBs
    have cB2 : upd H1 Bs (.lst (BLs.map V.int)) Bs = some (.lst (BLs.map V.int)) := upd_same
    have eB : ([.int 1, .int 2, .int 3, .int 10, .int 1000, .int (10 ^ Int.toNat 5), .int (10 ^ Int.toNat 9), .int (2 * 10 ^ Int.toNat 12 + 1)] : List V) = BLs.map V.int := by rfl
    dsimp only [gName]
    rw [eB]
    generalize upd H1 Bs (.lst (BLs.map V.int)) = H2 at k2 hD2 cB2 ⊢
    clear k1 hD1
    -- base
    refine ⟨_, rfl, _, rfl, p, _, rfl, hD2, by decide, fun g3 H3 a3 b3 _ hD3 k3 => ?_⟩
    obtain ⟨base0, hb0, eb0⟩ := at_pick (ns := BLs) a3 b3
    have cB3 := k3 _ _ nB cB2
    refine ⟨_, _, _, _, rfl, rfl, SqL.of cB3, eb0, ?_⟩
    have bb := bls_bd hb0
    dsimp only [gName]
    -- mixed
    refine ⟨_, rfl, p, _, rfl, hD3, by decide, fun g4 H4 a4 b4 _ hD4 k4 => ⟨rfl, ?_⟩⟩
    dsimp only [gName]
    generalize decide (V.int g4 = V.int 1) = mixed
    have cB4 := k4 _ _ nB cB3
    have kk4 := (k2.trans k3).trans k4
    -- wide
    refine ⟨_, rfl, _, rfl, _, _, _, _, rfl, rfl, SqL.of cB4, rfl, (by show 2 ≤ sizeLine; decide), fun q2 hq2 => ?_⟩
    refine ⟨_, rfl, .inr ⟨_, rfl, ?_⟩⟩
    have m2 := b2i_bd mixed
    generalize (if mixed = true then (1 : Int) else 0) = mi at m2 ⊢
    obtain ⟨wide, hw, ew⟩ := at_pick (ns := [base0, 2000000000001]) m2.1 m2.2
    have hwb : 1 ≤ wide ∧ wide ≤ 2000000000001 := by
      have : wide = base0 ∨ wide = 2000000000001 := by simpa using hw
      omega
    refine ⟨_, _, _, _, rfl, rfl, SqL.of upd_same, ew, ?_⟩
    have s5 := Same.new (o := .lst [.int base0, .int 2000000000001]) hq2
    have cB5 := s5 _ _ cB4
    have kk5 := kk4.trans s5.but
    have hD5 := hD4.same s5
    dsimp only [gName]
    generalize upd H4 q2 _ = H5 at s5 cB5 kk5 hD5 ⊢
    clear k2 k3 k4 kk4 hD2 hD3 hD4 cB2 cB3 cB4 s5
    -- top
    refine ⟨_, _, rfl, rfl, ⟨by decide, by decide, by decide⟩, _, rfl, _, _, rfl, rfl, _, _, rfl, rfl, ?_⟩
    dsimp only [gName]
    -- low
    refine ⟨_, rfl, _, _, rfl, rfl, ⟨by decide, by decide⟩, _, _, rfl, rfl, _, _, rfl, rfl, ⟨by decide, by decide, by decide⟩, _, _, rfl, rfl, _, rfl, _, rfl, _, _, rfl, (by show 4 ≤ sizeLine; decide), fun q3 hq3 => ?_⟩
    have nq3 := hD5.ne hq3
    have e12 : (10 : Int) ^ Int.toNat 12 = 1000000000000 := by decide
    dsimp only
    rw [e12]
    refine ⟨_, rfl, p, _, rfl, hD5.new hq3, by decide, fun g6 H6 a6 b6 _ hD6 k6 => ?_⟩
    obtain ⟨low, hlow, elow⟩ := at_pick (ns := [0 - wide / 2, 0 - 1000000000000, 1000000000000 - wide + 1, if 1000000000000 - wide + 1 < 0 then 1000000000000 - wide + 1 else 0]) a6 b6
    have hlb : -2000000000000 ≤ low ∧ low ≤ 2000000000000 := by
      have : low = 0 - wide / 2 ∨ low = 0 - 1000000000000 ∨ low = 1000000000000 - wide + 1 ∨ low = (if 1000000000000 - wide + 1 < 0 then 1000000000000 - wide + 1 else 0) := by simpa using hlow
      rcases this with e | e | e | e
      · omega
      · omega
      · omega
      · rw [e]; split <;> omega
    refine ⟨_, _, _, _, rfl, rfl, SqL.of (k6 _ _ nq3 upd_same), elow, ?_⟩
    have kk6 := (kk5.trans (But.new hq3)).trans k6
    have cB6 := k6 _ _ nB ((Same.new hq3) _ _ cB5)
    dsimp only [gName]
    clear kk5 cB5 hD5 k6
    -- one, other, third, free
    refine ⟨_, rfl, p, _, rfl, hD6, by decide, fun one H7 a7 b7 _ hD7 k7 => ?_⟩
    dsimp only [gName]
    refine ⟨_, rfl, p, _, rfl, hD7, by decide, fun other H8 a8 b8 _ hD8 k8 => ⟨_, _, rfl, rfl, ?_⟩⟩
    dsimp only [gName]
    refine ⟨_, rfl, p, _, rfl, hD8, by decide, fun third H9 a9 b9 _ hD9 k9 => ?_⟩
    dsimp only [gName]
    refine ⟨_, rfl, p, _, rfl, hD9, by decide, fun g10 H10 a10 b10 _ hD10 k10 => ⟨rfl, ?_⟩⟩
    dsimp only [gName]
    generalize decide (V.int g10 = V.int 1) = free
    have kk10 := (((kk6.trans k7).trans k8).trans k9).trans k10
    have cB10 := k10 _ _ nB (k9 _ _ nB (k8 _ _ nB (k7 _ _ nB cB6)))
    clear kk6 k7 k8 k9 k10 cB6 hD6 hD7 hD8 hD9
    -- likes
    refine ⟨_, rfl, p, _, rfl, hD10, by decide, fun g11 H11 a11 b11 _ hD11 k11 => ⟨_, _, rfl, rfl, ?_⟩⟩
    refine ⟨(by show 3 ≤ sizeLine; decide), fun q4 hq4 => ?_⟩
    have nq4 := hD11.ne hq4
    refine ⟨_, rfl, p, _, rfl, hD11.new hq4, by decide, fun g12 H12 a12 b12 _ hD12 k12 => ?_⟩
    obtain ⟨likes, hlk, elk⟩ := at_pick (ns := [1, 1, 1 + g11]) a12 b12
    have hlkb : 1 ≤ likes ∧ likes ≤ 20 := by
      have : likes = 1 ∨ likes = 1 ∨ likes = 1 + g11 := by simpa using hlk
      omega
    refine ⟨_, _, _, _, rfl, rfl, SqL.of (k12 _ _ nq4 upd_same), elk, ?_⟩
    have kk12 := ((kk10.trans k11).trans (But.new hq4)).trans k12
    have cB12 := k12 _ _ nB ((Same.new hq4) _ _ (k11 _ _ nB cB10))
    dsimp only [gName]
    clear kk10 k11 k12 cB10 hD10 hD11
    -- found
    refine ⟨(by show 0 ≤ sizeLine; decide), fun F hF => ?_⟩
    have nF := hD12.ne hF
    have fF : H F = none := free_of_but kk12 hD12.some hF
    have nBF : Bs ≠ F := fun z => by rw [z, hF] at cB12; cases cB12
    have s13 := Same.new (o := .lst []) hF
    have cF13 : upd H12 F (.lst []) F = some (.lst (([] : List Int).map V.int)) := upd_same
    have kk13 := kk12.trans s13.but
    have cB13 := s13 _ _ cB12
    have hD13 := hD12.same s13
    dsimp only [gName]
    generalize upd H12 F (.lst []) = H13 at s13 cF13 kk13 cB13 hD13 ⊢
    clear kk12 cB12 hD12 s13
    refine seqJ (fun σ' H' => ∃ (fs : List Int) (base1 : Int) (v15 v16 v17 v18 : Option V), σ' = [some (.ref p), some (.int most), some (.int many), some (.ref Bs), some (.int base1), some (.bl mixed), some (.int wide), some (.int (1000000000000 - wide + 1)), some (.int low), some (.int one), some (.int (1 + other)), some (.int third), some (.bl free), some (.int likes), some (.ref F), v15, v16, v17, v18, none] ∧ H' F = some (.lst (fs.map V.int)) ∧ fs.length = many.toNat ∧ (∀ n ∈ fs, B13 n) ∧ But p H H' ∧ Draws H' p) (fun fin => ?_) ?_
    · refine ⟨_, rfl, many, rfl, by omega, by omega, for_range (lo := 0) (n := many.toNat) (fun i σ' H' => ∃ (fs : List Int) (base1 : Int) (v15 v16 v17 v18 : Option V), σ' = [some (.ref p), some (.int most), some (.int many), some (.ref Bs), some (.int base1), some (.bl mixed), some (.int wide), some (.int (1000000000000 - wide + 1)), some (.int low), some (.int one), some (.int (1 + other)), some (.int third), some (.bl free), some (.int likes), some (.ref F), v15, v16, v17, v18, none] ∧ 1 ≤ base1 ∧ base1 ≤ 2000000000001 ∧ H' F = some (.lst (fs.map V.int)) ∧ fs.length = i ∧ (∀ n ∈ fs, B13 n) ∧ But p H H' ∧ Draws H' p ∧ H' Bs = some (.lst (BLs.map V.int))) ⟨[], base0, _, _, _, _, rfl, bb.1, bb.2, cF13, rfl, (fun n hn => nomatch hn), kk13, hD13, cB13⟩ ?_ ?_⟩
      · clear kk13 cB13 hD13 cF13
        rintro i σ' H14 hi ⟨fs, base1, v15, v16, v17, v18, rfl, bs0, bs1, cF, fl, hf, k14, hD14, cB14⟩
        have hi300 : (i : Int) < 300 := by omega
        -- at
        refine ⟨_, rfl, _, rfl, _, _, rfl, rfl, ⟨by omega, by omega⟩, ?_⟩
        have at0 : 0 ≤ (0 + (i : Int)) / likes := Int.ediv_nonneg (by omega) (by omega)
        have at1 : (0 + (i : Int)) / likes < 300 := Int.ediv_lt_of_lt_mul (by omega) (by
          have : (300 : Int) * 1 ≤ 300 * likes := Int.mul_le_mul_of_nonneg_left (by omega) (by decide)
          omega)
        dsimp only [gName]
        generalize (0 + (i : Int)) / likes = at' at at0 at1 ⊢
        have aa : 0 ≤ at' * at' ∧ at' * at' < 90000 := by
          refine ⟨Int.mul_nonneg at0 at0, ?_⟩
          have := Int.mul_le_mul (show at' ≤ 299 by omega) (show at' ≤ 299 by omega) at0 (by decide)
          omega
        -- turn
        refine ⟨_, rfl, _, rfl, _, _, rfl, rfl, .inl ⟨by omega, by omega⟩, _, rfl, _, _, rfl, rfl, .inr ⟨by omega, by omega⟩, _, rfl, _, rfl, _, _, rfl, rfl, .inl ⟨by omega, by omega⟩, _, _, rfl, rfl, ?_⟩
        refine ⟨_, rfl, _, _, rfl, rfl, ⟨by decide, by decide⟩, _, _, rfl, rfl, .inr ⟨by decide, by decide⟩, _, _, rfl, rfl, _, rfl, _, _, rfl, rfl, _, _, rfl, rfl, (by show (0 : Int) < _; decide), ?_⟩
        dsimp only [gName]
        have tb : 0 ≤ (at' * at' * one + at' * (1 + other) + at' / 7 * 31 + third) % 9973 ∧ (at' * at' * one + at' * (1 + other) + at' / 7 * 31 + third) % 9973 < 9973 := ⟨Int.emod_nonneg _ (by decide), Int.emod_lt_of_pos _ (by decide)⟩
        generalize (at' * at' * one + at' * (1 + other) + at' / 7 * 31 + third) % 9973 = turn0 at tb ⊢
        -- if mixed
        refine seqJ (fun σ' H' => ∃ base1 : Int, σ' = [some (.ref p), some (.int most), some (.int many), some (.ref Bs), some (.int base1), some (.bl mixed), some (.int wide), some (.int (1000000000000 - wide + 1)), some (.int low), some (.int one), some (.int (1 + other)), some (.int third), some (.bl free), some (.int likes), some (.ref F), some (.int (0 + (i : Int))), some (.int at'), some (.int turn0), v18, none] ∧ 1 ≤ base1 ∧ base1 ≤ 2000000000001 ∧ H' = H14) (fun fin2 => ?_) ?_
        · refine ⟨_, rfl, _, rfl, ?_⟩
          cases mixed with
          | false => exact fin2 _ _ ⟨base1, rfl, bs0, bs1, rfl⟩
          | true =>
            refine ⟨_, rfl, _, rfl, _, rfl, _, rfl, _, _, rfl, rfl, .inl ⟨by omega, by omega⟩, _, _, rfl, rfl, _, _, rfl, rfl, (by show (0 : Int) < _; decide), ?_⟩
            obtain ⟨b2, hb2, eb2⟩ := at_pick (ns := BLs) (i := (turn0 + at' * at') % 8) (Int.emod_nonneg _ (by decide)) (Int.emod_lt_of_pos _ (by decide))
            have := bls_bd hb2
            exact ⟨_, _, _, _, rfl, rfl, SqL.of cB14, eb2, fin2 _ _ ⟨b2, rfl, this.1, this.2, rfl⟩⟩
        clear bs0 bs1 base1
        rintro _ H14 ⟨base1, rfl, bs0, bs1, rfl⟩
        -- if many < 13 ..
        refine seqJ (fun σ' H' => ∃ turn : Int, σ' = [some (.ref p), some (.int most), some (.int many), some (.ref Bs), some (.int base1), some (.bl mixed), some (.int wide), some (.int (1000000000000 - wide + 1)), some (.int low), some (.int one), some (.int (1 + other)), some (.int third), some (.bl free), some (.int likes), some (.ref F), some (.int (0 + (i : Int))), some (.int at'), some (.int turn), v18, none] ∧ 0 ≤ turn ∧ turn < 9973 ∧ But p H14 H' ∧ Draws H' p) (fun fin2 => ?_) ?_
        · have go := fun (turn : Int) (H' : Hp) (h0 : 0 ≤ turn) (h1 : turn < 9973) (kx : But p H14 H') (hx : Draws H' p) => fin2 _ _ ⟨turn, rfl, h0, h1, kx, hx⟩
          refine ⟨_, rfl, _, _, rfl, rfl, _, rfl, ?_⟩
          refine ite2 (fun _ => ?_) (fun _ => ?_)
          · exact ⟨_, rfl, p, _, rfl, hD14, by decide, fun g H15 g0 g1 _ hD15 k15 => go g H15 g0 (by omega) k15 hD15⟩
          · refine ⟨_, rfl, _, rfl, ?_⟩
            cases free with
            | false => exact go turn0 H14 tb.1 tb.2 (But.refl _ _) hD14
            | true =>
              obtain ⟨ds, cds, _, _⟩ := id hD14
              refine ⟨_, rfl, p, _, rfl, .inl (SqL.of cds), _, _, rfl, rfl, _, rfl, ?_⟩
              refine ite2 (fun _ => ?_) (fun _ => go turn0 H14 tb.1 tb.2 (But.refl _ _) hD14)
              exact ⟨_, rfl, p, _, rfl, hD14, by decide, fun g H15 g0 g1 _ hD15 k15 => go g H15 g0 (by omega) k15 hD15⟩
        rintro _ H15 ⟨turn, rfl, t0, t1, k15, hD15⟩
        have cF15 := k15 _ _ nF cF
        have cB15 := k15 _ _ nB cB14
        have kk15 := k14.trans k15
        have nb := num_bd t0 t1 bs0 bs1
        have tb2 : 0 ≤ turn % base1 ∧ turn % base1 ≤ turn := ⟨Int.emod_nonneg _ (by omega), by
          by_cases h : turn < base1
          · rw [Int.emod_eq_of_lt t0 h]; exact Int.le_refl _
          · have := Int.emod_lt_of_pos turn (show 0 < base1 by omega); omega⟩
        have t7 : 0 ≤ turn % 7 ∧ turn % 7 < 7 := ⟨Int.emod_nonneg _ (by decide), Int.emod_lt_of_pos _ (by decide)⟩
        -- number
        refine ⟨_, rfl, _, rfl, _, _, rfl, rfl, (by show (0 : Int) < base1; omega), _, rfl, _, rfl, _, _, rfl, rfl, ⟨by decide, by decide⟩, _, _, rfl, rfl, .inl ⟨by omega, by omega⟩, _, rfl, _, _, rfl, rfl, (by show (0 : Int) < _; decide), _, _, rfl, rfl, (by show 2 ≤ sizeLine; decide), fun q5 hq5 => ?_⟩
        have s16 := Same.new (o := .lst [.int (turn % base1), .int (turn * (base1 / 9973) + turn % 7)]) hq5
        have cF16 := s16 _ _ cF15
        have cB16 := s16 _ _ cB15
        have kk16 := kk15.trans s16.but
        have hD16 := hD15.same s16
        have cq5 : upd H15 q5 (.lst [.int (turn % base1), .int (turn * (base1 / 9973) + turn % 7)]) q5 = some (.lst ([turn % base1, turn * (base1 / 9973) + turn % 7].map V.int)) := upd_same
        dsimp only
        generalize upd H15 q5 (.lst [.int (turn % base1), .int (turn * (base1 / 9973) + turn % 7)]) = H16 at s16 cF16 cB16 kk16 hD16 cq5 ⊢
        refine ⟨_, rfl, _, _, rfl, rfl, .inr ⟨_, rfl, ?_⟩⟩
        have m3 := b2i_bd (decide (1000 < base1))
        generalize (if decide (1000 < base1) = true then (1 : Int) else 0) = mj at m3 ⊢
        obtain ⟨number, hnm, enm⟩ := at_pick (ns := [turn % base1, turn * (base1 / 9973) + turn % 7]) m3.1 m3.2
        have hnb : 0 ≤ number ∧ number ≤ 3000000000000 := by
          have : number = turn % base1 ∨ number = turn * (base1 / 9973) + turn % 7 := by simpa using hnm
          rcases this with e | e
          · omega
          · rw [e]; omega
        refine ⟨_, _, _, _, rfl, rfl, SqL.of cq5, enm, ?_⟩
        dsimp only [gName]
        -- found.append
        refine ⟨_, rfl, .inl ⟨rfl, _, SqL.of cF16⟩, _, rfl, _, rfl, _, rfl, _, _, rfl, rfl, (by show 2 ≤ sizeLine; decide), fun q6 hq6 => ?_⟩
        have s17 := Same.new (o := .lst [.int number, .int (base1 - 1)]) hq6
        have cq6 : upd H16 q6 (.lst [.int number, .int (base1 - 1)]) q6 = some (.lst ([number, base1 - 1].map V.int)) := upd_same
        dsimp only
        generalize upd H16 q6 (.lst [.int number, .int (base1 - 1)]) = H17 at s17 cq6 ⊢
        refine ⟨_, rfl, _, _, rfl, rfl, (by show (0 : Int) < _; decide), rfl, .inr ⟨_, rfl, ?_⟩⟩
        have m4 := b2i_bd (decide (V.int (turn % 11) = V.int 5))
        generalize (if decide (V.int (turn % 11) = V.int 5) = true then (1 : Int) else 0) = ml at m4 ⊢
        obtain ⟨last, hls, els⟩ := at_pick (ns := [number, base1 - 1]) m4.1 m4.2
        have hlsb : 0 ≤ last ∧ last ≤ 3000000000000 := by
          have : last = number ∨ last = base1 - 1 := by simpa using hls
          omega
        refine ⟨_, _, _, _, rfl, rfl, SqL.of cq6, els, _, _, rfl, rfl, F, _, _, rfl, rfl, s17 _ _ cF16, by rw [List.length_map]; exact small1000 (by omega), ?_⟩
        refine ⟨fs ++ [low + last], base1, _, _, _, _, rfl, bs0, bs1, ?_, by rw [List.length_append, fl]; rfl, fun n hn => ?_, (kk16.trans s17.but).at fF, (hD16.same s17).at nF, ?_⟩
        · rw [upd_same, List.map_append]; rfl
        · rcases List.mem_append.mp hn with z | z
          · exact hf n z
          · rw [List.mem_singleton.mp z]; exact ⟨by omega, by omega⟩
        · rw [upd_ne nBF]; exact s17 _ _ cB16
      · rintro σ' H14 ⟨fs, base1, v15, v16, v17, v18, rfl, bs0, bs1, cF, fl, hf, k14, hD14, cB14⟩
        exact fin _ _ ⟨fs, base1, _, _, _, _, rfl, cF, fl, hf, k14, hD14⟩
    clear kk13 cB13 hD13 cF13
    rintro _ H14 ⟨fs, base1, v15, v16, v17, v18, rfl, cF, fl, hf, k14, hD14⟩
    -- shape
    refine ⟨_, rfl, p, _, rfl, hD14, by decide, fun shape H15 a15 b15 _ hD15 k15 => ?_⟩
    have cF15 := k15 _ _ nF cF
    have kk15 := k14.trans k15
    dsimp only [gName]
    have done : ∀ (r : Addr) (H' : Hp) (ms : List Int), Same H15 H' → H15 r = none → H' r = some (.lst (ms.map V.int)) → ms.length ≤ many.toNat → (∀ n ∈ ms, n ∈ fs) → Q (.ref r) H' := fun r H' ms s' fr cr ml hm =>
      q r H' ms (free_of_but kk15 hD15.some fr) (hD15.ne fr) (kk15.trans s'.but) (hD15.same s') cr (by omega) fun n hn => hf n (hm n hn)
    refine seqJ (fun σ' H' => σ' = [some (.ref p), some (.int most), some (.int many), some (.ref Bs), some (.int base1), some (.bl mixed), some (.int wide), some (.int (1000000000000 - wide + 1)), some (.int low), some (.int one), some (.int (1 + other)), some (.int third), some (.bl free), some (.int likes), some (.ref F), v15, v16, v17, v18, some (.int shape)] ∧ H' = H15) (fun fin => ?_) ?_
    · refine ⟨_, rfl, rfl, _, rfl, ?_⟩
      refine ite2 (fun _ => ?_) (fun _ => fin _ _ ⟨rfl, rfl⟩)
      exact ⟨_, rfl, F, fs, rfl, SqL.of cF15, fun ms r pm _ hr' => done r _ ms (Same.new hr') hr' upd_same (by rw [pm.length_eq, fl]; exact Nat.le_refl _) fun n hn => pm.mem_iff.mp hn⟩
    rintro _ H15 ⟨rfl, rfl⟩
    refine seqJ (fun σ' H' => σ' = [some (.ref p), some (.int most), some (.int many), some (.ref Bs), some (.int base1), some (.bl mixed), some (.int wide), some (.int (1000000000000 - wide + 1)), some (.int low), some (.int one), some (.int (1 + other)), some (.int third), some (.bl free), some (.int likes), some (.ref F), v15, v16, v17, v18, some (.int shape)] ∧ H' = H15) (fun fin => ?_) ?_
    · refine ⟨_, rfl, rfl, _, rfl, ?_⟩
      refine ite2 (fun _ => ?_) (fun _ => fin _ _ ⟨rfl, rfl⟩)
      refine ⟨_, rfl, F, fs, rfl, SqL.of cF15, fun ms r pm _ hr' => ⟨r, _, rfl, SqL.of upd_same, fun r2 hr2 => ?_⟩⟩
      rw [← List.map_reverse]
      exact done r2 _ ms.reverse ((Same.new hr').trans (Same.new hr2)) ((Same.new hr').free hr2) upd_same (by rw [List.length_reverse, pm.length_eq, fl]; exact Nat.le_refl _) fun n hn => pm.mem_iff.mp (List.mem_reverse.mp hn)
    rintro _ H15 ⟨rfl, rfl⟩
    refine seqJ (fun σ' H' => σ' = [some (.ref p), some (.int most), some (.int many), some (.ref Bs), some (.int base1), some (.bl mixed), some (.int wide), some (.int (1000000000000 - wide + 1)), some (.int low), some (.int one), some (.int (1 + other)), some (.int third), some (.bl free), some (.int likes), some (.ref F), v15, v16, v17, v18, some (.int shape)] ∧ H' = H15) (fun fin => ?_) ?_
    · refine ⟨_, rfl, rfl, _, rfl, ?_⟩
      refine ite2 (fun _ => ?_) (fun _ => fin _ _ ⟨rfl, rfl⟩)
      have h2 := pick_two fs
      refine ⟨_, rfl, F, fs, rfl, SqL.of cF15, fun r1 hr1 => ?_⟩
      have e1 := Same.new (o := .lst ((PyProof.Rows.pickNums fs none none (some 2)).map V.int)) hr1
      refine ⟨r1, _, rfl, SqL.of upd_same, fun ms1 r2 pm1 _ hr2 => ?_⟩
      have e2 := Same.new (o := .lst (ms1.map V.int)) hr2
      have e12' := e1.trans e2
      refine ⟨_, rfl, _, rfl, F, fs, rfl, SqL.of (e12' _ _ cF15), fun r3 hr3 => ?_⟩
      have e3 := Same.new (o := .lst ((PyProof.Rows.pickNums fs (some 1) none (some 2)).map V.int)) hr3
      refine ⟨r3, _, rfl, SqL.of upd_same, fun ms2 r4 pm2 _ hr4 => ?_⟩
      have e4 := Same.new (o := .lst (ms2.map V.int)) hr4
      refine ⟨r4, _, rfl, SqL.of upd_same, fun r5 hr5 => ?_⟩
      have e5 := Same.new (o := .lst (ms2.map V.int).reverse) hr5
      have e35 := e3.trans (e4.trans e5)
      rw [← List.map_reverse] at e5 e35 ⊢
      have c2 := e35 _ _ (show upd (upd H15 r1 (.lst ((PyProof.Rows.pickNums fs none none (some 2)).map V.int))) r2 (.lst (ms1.map V.int)) r2 = _ from upd_same)
      refine ⟨r2, r5, _, _, rfl, rfl, c2, upd_same, ?_, fun r6 hr6 => ?_⟩
      · rw [List.length_map, List.length_map, List.length_reverse, pm1.length_eq, pm2.length_eq]; exact line1000 (by omega)
      have e6 := Same.new (o := .lst (ms1.map V.int ++ ms2.reverse.map V.int)) hr6
      refine done r6 _ (ms1 ++ ms2.reverse) (e12'.trans (e35.trans e6)) ((e12'.trans e35).free hr6) (by rw [upd_same, List.map_append]) ?_ fun n hn => ?_
      · rw [List.length_append, List.length_reverse, pm1.length_eq, pm2.length_eq]; omega
      · rcases List.mem_append.mp hn with z | z
        · exact pick_mem (pm1.mem_iff.mp z)
        · exact pick_mem (pm2.mem_iff.mp (List.mem_reverse.mp z))
    rintro _ H15 ⟨rfl, rfl⟩
    exact ⟨_, rfl, q F H15 fs fF nF kk15 hD15 cF15 (by omega) hf⟩
end

end Law

set_option Elab.async false
set_option linter.all false
set_option maxRecDepth 100000
set_option maxHeartbeats 4000000
namespace Law
open PySem L2
def par (ns : List Int) (b e : Nat) : Option Int :=
  if 0 < b then (if e < ns.length then (if vl ns e < vl ns (b - 1) then some ((b : Int) - 1) else some (e : Int)) else some ((b : Int) - 1)) else (if e < ns.length then some (e : Int) else none)
structure IsTree (ns : List Int) (os : List (Option Int)) : Prop where
  len : os.length = ns.length
  each : ∀ i, i < ns.length → ∃ b e : Nat, IsReach ns i b e ∧ os[i]? = some (par ns b e)
theorem IsTree.uniq {ns : List Int} {os ts : List (Option Int)} (h : IsTree ns os) (k : IsTree ns ts) : os = ts := by
  apply List.ext_getElem?
  intro i
  by_cases hi : i < ns.length
  · obtain ⟨b, e, r, x⟩ := h.each i hi
    obtain ⟨b', e', r', x'⟩ := k.each i hi
    obtain ⟨rfl, rfl⟩ := r.uniq r'
    rw [x, x']
  · rw [List.getElem?_eq_none (by rw [h.len]; omega), List.getElem?_eq_none (by rw [k.len]; omega)]

theorem beg_ex (ns : List Int) (i : Nat) : ∀ d : Nat, d ≤ i → (∀ j, d ≤ j → j < i → vl ns i < vl ns j) → ∃ b : Nat, b ≤ i ∧ (∀ j, b ≤ j → j < i → vl ns i < vl ns j) ∧ (b = 0 ∨ vl ns (b - 1) ≤ vl ns i)
  | 0, hd, h => ⟨0, hd, h, .inl rfl⟩
  | d + 1, hd, h => by
    rcases Int.lt_or_le (vl ns i) (vl ns d) with z | z
    · refine beg_ex ns i d (by omega) fun j j1 j2 => ?_
      rcases Nat.lt_or_ge j (d + 1) with y | y
      · rw [show j = d by omega]; exact z
      · exact h j y j2
    · exact ⟨d + 1, hd, h, .inr z⟩
theorem end_ex (ns : List Int) (i : Nat) : ∀ (m d : Nat), i < d → d ≤ ns.length → m = ns.length - d → (∀ j, i ≤ j → j < d → vl ns i ≤ vl ns j) → ∃ e : Nat, i < e ∧ e ≤ ns.length ∧ (∀ j, i ≤ j → j < e → vl ns i ≤ vl ns j) ∧ (e = ns.length ∨ vl ns e < vl ns i)
  | 0, d, h1, h2, hm, h => ⟨d, h1, h2, h, .inl (by omega)⟩
  | m + 1, d, h1, h2, hm, h => by
    rcases Int.lt_or_le (vl ns d) (vl ns i) with z | z
    · exact ⟨d, h1, h2, h, .inr z⟩
    · refine end_ex ns i m (d + 1) (by omega) (by omega) (by omega) fun j j1 j2 => ?_
      rcases Nat.lt_or_ge j d with y | y
      · exact h j j1 y
      · rw [show j = d by omega]; exact z
theorem reach_ex {ns : List Int} {i : Nat} (hi : i < ns.length) : ∃ b e : Nat, IsReach ns i b e := by
  obtain ⟨b, b1, b2, b3⟩ := beg_ex ns i i (Nat.le_refl _) fun j j1 j2 => by omega
  obtain ⟨e, e1, e2, e3, e4⟩ := end_ex ns i (ns.length - (i + 1)) (i + 1) (Nat.lt_succ_self _) hi rfl fun j j1 j2 => by rw [show j = i by omega]; exact Int.le_refl _
  exact ⟨b, e, ⟨b1, e1, e2, b2, b3, e3, e4⟩⟩

inductive Way (os : List (Option Int)) : Nat → List Nat → Prop
  | top {i : Nat} : os[i]? = some none → Way os i [i]
  | step {i j : Nat} {l : List Nat} : os[i]? = some (some (j : Int)) → Way os j l → Way os i (i :: l)
/-- the first least place between two places -/
structure IsLow (ns : List Int) (i k m : Nat) : Prop where
  lo : min i k ≤ m
  hi : m ≤ max i k
  bf : ∀ x, min i k ≤ x → x < m → vl ns m < vl ns x
  af : ∀ x, m ≤ x → x ≤ max i k → vl ns m ≤ vl ns x
theorem IsLow.uniq {ns : List Int} {i k m m' : Nat} (h : IsLow ns i k m) (h' : IsLow ns i k m') : m = m' := by
  rcases Nat.lt_trichotomy m m' with z | z | z
  · have h1 := h'.bf m h.lo z
    have h2 := h.af m' (by omega) h'.hi
    omega
  · exact z
  · have h1 := h.bf m' h'.lo z
    have h2 := h'.af m (by omega) h.hi
    omega
theorem IsLow.self {ns : List Int} {i k b e : Nat} (r : IsReach ns i b e) (h1 : b ≤ k) (h2 : k < e) : IsLow ns i k i := by
  have q1 := r.bi; have q2 := r.ie
  exact ⟨Nat.min_le_left _ _, Nat.le_max_left _ _, fun x x1 x2 => r.bg x (by omega) x2, fun x x1 x2 => r.eg x x1 (by omega)⟩
theorem par_some {ns : List Int} {i b e j : Nat} (r : IsReach ns i b e) (h : par ns b e = some (j : Int)) : (j + 1 = b ∧ (e = ns.length ∨ vl ns e < vl ns j)) ∨ (j = e ∧ e < ns.length ∧ (b = 0 ∨ vl ns (b - 1) ≤ vl ns e)) := by
  unfold par at h
  by_cases hb : 0 < b
  · rw [if_pos hb] at h
    by_cases he : e < ns.length
    · rw [if_pos he] at h
      by_cases hc : vl ns e < vl ns (b - 1)
      · rw [if_pos hc] at h
        have : (b : Int) - 1 = j := Option.some.inj h
        have ej : j = b - 1 := by omega
        exact .inl ⟨by omega, .inr (by rw [ej]; exact hc)⟩
      · rw [if_neg hc] at h
        have : (e : Int) = j := Option.some.inj h
        exact .inr ⟨by omega, he, .inr (by omega)⟩
    · rw [if_neg he] at h
      have : (b : Int) - 1 = j := Option.some.inj h
      have := r.en
      exact .inl ⟨by omega, .inl (by omega)⟩
  · rw [if_neg hb] at h
    by_cases he : e < ns.length
    · rw [if_pos he] at h
      have : (e : Int) = j := Option.some.inj h
      exact .inr ⟨by omega, he, .inl (by omega)⟩
    · rw [if_neg he] at h; cases h
theorem par_non {ns : List Int} {i b e : Nat} (r : IsReach ns i b e) (h : par ns b e = none) : b = 0 ∧ e = ns.length := by
  unfold par at h
  have := r.en
  by_cases hb : 0 < b
  · rw [if_pos hb] at h
    by_cases he : e < ns.length
    · rw [if_pos he] at h
      by_cases hc : vl ns e < vl ns (b - 1)
      · rw [if_pos hc] at h; cases h
      · rw [if_neg hc] at h; cases h
    · rw [if_neg he] at h; cases h
  · rw [if_neg hb] at h
    by_cases he : e < ns.length
    · rw [if_pos he] at h; cases h
    · exact ⟨by omega, by omega⟩
/-- the reach of the place above holds the reach -/
theorem above_holds {ns : List Int} {i b e j b' e' : Nat} (r : IsReach ns i b e) (h : par ns b e = some (j : Int)) (r' : IsReach ns j b' e') : b' ≤ b ∧ e ≤ e' ∧ e' - b' > e - b := by
  have h1 := r.bi; have h2 := r.ie; have h3 := r.en; have q1 := r'.bi; have q2 := r'.ie; have q3 := r'.en
  rcases par_some r h with ⟨ej, hc⟩ | ⟨ej, he, hc⟩
  · have hji : vl ns j ≤ vl ns i := by
      rcases r.b0 with z | z
      · omega
      · rw [show j = b - 1 by omega]; exact z
    have : e ≤ e' := by
      rcases r'.e0 with z | z
      · omega
      · rcases Nat.lt_or_ge e' e with y | y
        · exfalso
          rcases Nat.lt_or_ge e' i with x | x
          · have := r.bg e' (by omega) x; omega
          · have := r.eg e' x y; omega
        · exact y
    omega
  · subst ej
    have hji : vl ns j < vl ns i := by
      rcases r.e0 with z | z
      · omega
      · exact z
    have : b' ≤ b := by
      rcases r'.b0 with z | z
      · omega
      · rcases Nat.lt_or_ge b b' with y | y
        · exfalso
          rcases Nat.lt_or_ge (b' - 1) i with x | x
          · have := r.bg (b' - 1) (by omega) x; omega
          · have := r.eg (b' - 1) x (by omega); omega
        · exact y
    omega
/-- past the reach, the lowest place over both is that of the place above -/
theorem low_above {ns : List Int} {i b e j k m : Nat} (r : IsReach ns i b e) (h : par ns b e = some (j : Int)) (hk : k < b ∨ e ≤ k) (hkn : k < ns.length) (hm : IsLow ns j k m) : IsLow ns i k m := by
  have h1 := r.bi; have h2 := r.ie; have h3 := r.en
  have hin : ∀ x, b ≤ x → x < e → vl ns i ≤ vl ns x := fun x x1 x2 => by
    rcases Nat.lt_or_ge x i with z | z
    · exact Int.le_of_lt (r.bg x x1 z)
    · exact r.eg x z x2
  obtain ⟨m1, m2, m3, m4⟩ := hm
  rcases par_some r h with ⟨ej, hc⟩ | ⟨ej, he, hc⟩
  · have hji : vl ns j ≤ vl ns i := by
      rcases r.b0 with z | z
      · omega
      · rw [show j = b - 1 by omega]; exact z
    rcases hk with hk | hk
    · -- k .. j .. i
      refine ⟨by omega, by omega, fun x x1 x2 => m3 x (by omega) x2, fun x x1 x2 => ?_⟩
      rcases Nat.lt_or_ge j x with z | z
      · have a1 := m4 j (by omega) (by omega)
        have a2 := hin x (by omega) (by omega)
        omega
      · exact m4 x x1 (by omega)
    · -- j i k
      have hej : vl ns e < vl ns j := by rcases hc with z | z; omega; exact z
      have hme : e ≤ m := by
        rcases Nat.lt_or_ge m e with z | z
        · exfalso
          have a1 := m4 e (by omega) (by omega)
          rcases Nat.lt_or_ge j m with y | y
          · have a2 := hin m (by omega) z; omega
          · rw [show m = j by omega] at a1; omega
        · exact z
      exact ⟨by omega, by omega, fun x x1 x2 => m3 x (by omega) x2, fun x x1 x2 => m4 x x1 (by omega)⟩
  · subst ej
    have hji : vl ns j < vl ns i := by
      rcases r.e0 with z | z
      · omega
      · exact z
    rcases hk with hk | hk
    · -- k i j
      have hbj : vl ns (b - 1) ≤ vl ns j := by rcases hc with z | z; omega; exact z
      have hmb : m ≤ b - 1 := by
        rcases Nat.lt_or_ge (b - 1) m with z | z
        · exfalso
          have a1 := m3 (b - 1) (by omega) z
          rcases Nat.lt_or_ge m j with y | y
          · have a2 := hin m (by omega) y; omega
          · rw [show m = j by omega] at a1; omega
        · exact z
      exact ⟨by omega, by omega, fun x x1 x2 => m3 x (by omega) x2, fun x x1 x2 => m4 x x1 (by omega)⟩
    · -- i j k
      refine ⟨by omega, by omega, fun x x1 x2 => ?_, fun x x1 x2 => m4 x x1 (by omega)⟩
      rcases Nat.lt_or_ge x j with z | z
      · have a1 := hin x (by omega) z
        have a2 : vl ns m ≤ vl ns j := by
          rcases Nat.lt_or_ge j m with y | y
          · exact Int.le_of_lt (m3 j (by omega) y)
          · rw [show m = j by omega]; exact Int.le_refl _
        omega
      · exact m3 x (by omega) x2
theorem nest {ns : List Int} {x b e y b' e' : Nat} (r : IsReach ns x b e) (r' : IsReach ns y b' e') (h1 : b ≤ y) (h2 : y < e) : b ≤ b' ∧ e' ≤ e := by
  have q1 := r.bi; have q2 := r.ie; have q3 := r.en; have q4 := r'.bi; have q5 := r'.ie; have q6 := r'.en
  have hv : vl ns x ≤ vl ns y := by
    rcases Nat.lt_or_ge y x with z | z
    · exact Int.le_of_lt (r.bg y h1 z)
    · exact r.eg y z h2
  constructor
  · rcases r.b0 with z | z
    · omega
    · rcases Nat.lt_or_ge b' b with w | w
      · have := r'.bg (b - 1) (by omega) (by omega); omega
      · exact w
  · rcases r.e0 with z | z
    · omega
    · rcases Nat.lt_or_ge e e' with w | w
      · have := r'.eg e (by omega) w; omega
      · exact w
theorem above_iff {ns : List Int} {i b e j x bx ex : Nat} (r : IsReach ns i b e) (h : par ns b e = some (j : Int)) (hj : j < ns.length) (rx : IsReach ns x bx ex) : (bx ≤ i ∧ i < ex) ↔ (x = i ∨ (bx ≤ j ∧ j < ex)) := by
  have h1 := r.bi; have h2 := r.ie; have h3 := r.en; have q1 := rx.bi; have q2 := rx.ie; have q3 := rx.en
  constructor
  · rintro ⟨a1, a2⟩
    by_cases hxi : x = i
    · exact .inl hxi
    right
    have hout : x < b ∨ e ≤ x := by
      rcases Nat.lt_or_ge x b with z | z
      · exact .inl z
      · rcases Nat.lt_or_ge x e with y | y
        · exfalso
          have s1 := IsLow.self r z y
          have s2 := IsLow.self rx a1 a2
          have s3 : IsLow ns i x x := ⟨by omega, by omega, fun w w1 w2 => s2.bf w (by omega) w2, fun w w1 w2 => s2.af w w1 (by omega)⟩
          exact hxi (s3.uniq s1)
        · exact .inr y
    have hin : ∀ w, b ≤ w → w < e → vl ns i ≤ vl ns w := fun w x1 x2 => by
      rcases Nat.lt_or_ge w i with z | z
      · exact Int.le_of_lt (r.bg w x1 z)
      · exact r.eg w z x2
    rcases par_some r h with ⟨ej, hc⟩ | ⟨ej, he, hc⟩
    · rcases hout with z | z
      · omega
      · -- j = b - 1, x behind
        have hxi' : vl ns x < vl ns i := rx.bg i a1 (by omega)
        have hxe : vl ns x ≤ vl ns e := by
          rcases Nat.lt_or_ge e x with y | y
          · exact Int.le_of_lt (rx.bg e (by omega) y)
          · rw [show e = x by omega]; exact Int.le_refl _
        have hej : vl ns e < vl ns j := by rcases hc with y | y; omega; exact y
        refine ⟨?_, by omega⟩
        rcases Nat.lt_or_ge j bx with y | y
        · exfalso
          rcases rx.b0 with u | u
          · omega
          · rcases Nat.lt_or_ge b bx with v | v
            · have := hin (bx - 1) (by omega) (by omega); omega
            · rw [show bx - 1 = j by omega] at u; omega
        · exact y
    · subst ej
      rcases hout with z | z
      · have hxi' : vl ns x ≤ vl ns i := rx.eg i (by omega) a2
        have hxb : vl ns x ≤ vl ns (b - 1) := rx.eg (b - 1) (by omega) (by omega)
        have hbe : vl ns (b - 1) ≤ vl ns j := by rcases hc with y | y; omega; exact y
        refine ⟨by omega, ?_⟩
        rcases Nat.lt_or_ge j ex with y | y
        · exact y
        · exfalso
          rcases rx.e0 with u | u
          · omega
          · rcases Nat.lt_or_ge ex j with v | v
            · have := hin ex (by omega) v; omega
            · rw [show ex = j by omega] at u; omega
      · omega
  · rintro (rfl | ⟨a1, a2⟩)
    · obtain ⟨rfl, rfl⟩ := r.uniq rx
      exact ⟨h1, h2⟩
    · obtain ⟨bj, ej, rj⟩ := reach_ex hj
      have n1 := nest rx rj a1 a2
      have n2 := above_holds r h rj
      omega
theorem Way.mem {ns : List Int} {os : List (Option Int)} (t : IsTree ns os) {i : Nat} {l : List Nat} (w : Way os i l) : i < ns.length → ∀ x, x ∈ l ↔ ∃ b e, IsReach ns x b e ∧ b ≤ i ∧ i < e := by
  induction w with
  | @top i ho =>
    intro hi x
    obtain ⟨b, e, r, x1⟩ := t.each i hi
    rw [ho] at x1
    obtain ⟨rfl, rfl⟩ := par_non r (Option.some.inj x1).symm
    rw [List.mem_singleton]
    constructor
    · rintro rfl; exact ⟨_, _, r, r.bi, r.ie⟩
    · rintro ⟨b', e', r', a1, a2⟩
      have s1 := IsLow.self r (Nat.zero_le x) (by have := r'.ie; have := r'.en; omega)
      have s2 := IsLow.self r' a1 a2
      have s3 : IsLow ns i x x := ⟨by omega, by omega, fun w w1 w2 => s2.bf w (by omega) w2, fun w w1 w2 => s2.af w w1 (by omega)⟩
      exact s3.uniq s1
  | @step i j l ho w ih =>
    intro hi x
    obtain ⟨b, e, r, x1⟩ := t.each i hi
    rw [ho] at x1
    have hp : par ns b e = some (j : Int) := (Option.some.inj x1).symm
    have hj : j < ns.length := by
      have := r.bi; have := r.ie; have := r.en
      rcases par_some r hp with ⟨z, _⟩ | ⟨z, y, _⟩ <;> omega
    rw [List.mem_cons, ih hj x]
    constructor
    · rintro (rfl | ⟨b', e', r', a1, a2⟩)
      · exact ⟨b, e, r, r.bi, r.ie⟩
      · have := (above_iff r hp hj r').mpr (.inr ⟨a1, a2⟩)
        exact ⟨b', e', r', this.1, this.2⟩
    · rintro ⟨b', e', r', a1, a2⟩
      rcases (above_iff r hp hj r').mp ⟨a1, a2⟩ with z | z
      · exact .inl z
      · exact .inr ⟨b', e', r', z.1, z.2⟩
/-- the first place of one way that the other way has too -/
theorem Way.first {ns : List Int} {os : List (Option Int)} (t : IsTree ns os) {i k : Nat} {l l' : List Nat} (w : Way os i l) (w' : Way os k l') (hk : k < ns.length) : i < ns.length → ∃ m rest, l.filter (fun x => decide (x ∈ l')) = m :: rest ∧ IsLow ns i k m := by
  induction w with
  | @top i ho =>
    intro hi
    obtain ⟨b, e, r, x1⟩ := t.each i hi
    rw [ho] at x1
    obtain ⟨rfl, rfl⟩ := par_non r (Option.some.inj x1).symm
    have hm : i ∈ l' := (w'.mem t hk i).mpr ⟨_, _, r, Nat.zero_le _, hk⟩
    refine ⟨i, [], ?_, IsLow.self r (Nat.zero_le _) hk⟩
    rw [List.filter_cons, if_pos (decide_eq_true hm)]; rfl
  | @step i j l ho w ih =>
    intro hi
    obtain ⟨b, e, r, x1⟩ := t.each i hi
    rw [ho] at x1
    have hp : par ns b e = some (j : Int) := (Option.some.inj x1).symm
    have hj : j < ns.length := by
      have := r.bi; have := r.ie; have := r.en
      rcases par_some r hp with ⟨z, _⟩ | ⟨z, y, _⟩ <;> omega
    by_cases hin : b ≤ k ∧ k < e
    · have hm : i ∈ l' := (w'.mem t hk i).mpr ⟨_, _, r, hin.1, hin.2⟩
      exact ⟨i, _, by rw [List.filter_cons, if_pos (decide_eq_true hm)], IsLow.self r hin.1 hin.2⟩
    · have hm : ¬ i ∈ l' := fun z => by
        obtain ⟨b', e', r', a1, a2⟩ := (w'.mem t hk i).mp z
        obtain ⟨rfl, rfl⟩ := r.uniq r'
        exact hin ⟨a1, a2⟩
      obtain ⟨m, rest, h1, h2⟩ := ih hj
      exact ⟨m, rest, by rw [List.filter_cons, if_neg (by rw [decide_eq_false hm]; decide)]; exact h1, low_above r hp (by omega) hk h2⟩

theorem par_cases {ns : List Int} {b e : Nat} {k : Int} (h : par ns b e = some k) : k = (e : Int) ∨ (0 < b ∧ k = (b : Int) - 1) := by
  unfold par at h
  by_cases hb : 0 < b
  · rw [if_pos hb] at h
    by_cases he : e < ns.length
    · rw [if_pos he] at h
      by_cases hc : vl ns e < vl ns (b - 1)
      · rw [if_pos hc] at h; exact .inr ⟨hb, (Option.some.inj h).symm⟩
      · rw [if_neg hc] at h; exact .inl (Option.some.inj h).symm
    · rw [if_neg he] at h; exact .inr ⟨hb, (Option.some.inj h).symm⟩
  · rw [if_neg hb] at h
    by_cases he : e < ns.length
    · rw [if_pos he] at h; exact .inl (Option.some.inj h).symm
    · rw [if_neg he] at h; cases h
def natV (l : List Nat) : List Int := l.map fun (x : Nat) => (x : Int)
def spWay (K : PySem.W.Frag) : Sp := fun vs H Q _ => ∃ (t : Addr) (os : List (Option Int)) (ns : List Int) (i : Nat), vs = [.ref t, .int (i : Nat)] ∧ SqL K H t (os.map oV) ∧ IsTree ns os ∧ ns.length ≤ 300 ∧ i < ns.length ∧ ∀ (D : Addr) (H' : Hp) (l : List Nat), H D = none → Same H H' → H' D = some (.lst ((natV l).map V.int)) → l.length ≤ 300 → Way os i l → Q (.ref D) H'
section
variable {P : Program} {w : World} {K : PySem.W.Frag} {mg : Str → Option Value} {base : Heap}
def xplaces_above : { t : Stmt // top 1 = t } := ⟨_, by conv => { lhs; whnf }⟩
abbrev splaces_above : Stmt := xplaces_above.1
theorem scplaces_above : FnScope ["tree", "place", "above"] ["tree", "place"] (defScope splaces_above) := ⟨rfl, rfl, rfl, by decide +kernel, rfl, by decide +kernel, by decide +kernel⟩
theorem fn_places_above (B : Bl mg bls) (D : DefAt K mg "places_above" splaces_above ["tree", "place"]) : Fn P w K mg base 1 "places_above" ["tree", "place"] (spWay K) := by
  refine D.fn scplaces_above (fun vs H Q E h => ?_) (fun f cdv A outer s H vs Q E hr h => ?_)
  · obtain ⟨t, os, ns, i, rfl, _⟩ := h; rfl
  · obtain ⟨t, os, ns, i, rfl, hs, it, hl, hi, q⟩ := h
    refine' ⟨_, ?tm, ?rd⟩
    (case tm =>
      (conv => { arg 2; whnf })
      refine' pss_cons ?s0 ?r0
      (case s0 =>
        exact (ps_set (i := 2) scplaces_above.nd (by rfl) (by first | exact Or.inl rfl | exact Or.inr rfl) (pe_lst pa_nil)))
      (case r0 =>
        refine' pss_cons ?s0x ?r0x
        (case s0x =>
          refine' ps_while PassesOwn.never ?c0x ?d0x
          (case c0x => exact (pt_cmpR op_notN (pv 1) pe_non (nomark _)))
          (case d0x =>
            refine' pss_cons ?s0xw ?r0xw
            (case s0xw =>
              exact (ps_expr (pe_bm PySem.F.plainAttrs_list PySem.F.slot_list_append PySem.F.type_list_append mt_append (pv 2) (pa_cons (pv 1) pa_nil))))
            (case r0xw =>
              refine' pss_one ?s0xwx
              (case s0xwx =>
                exact (ps_set (i := 1) scplaces_above.nd (by rfl) (by first | exact Or.inl rfl | exact Or.inr rfl) (pe_ix ix_list (pv 0) (pv 1) (fun _ _ => rfl)))))))
        (case r0x =>
          refine' pss_one ?s0xx
          (case s0xx =>
            exact (ps_ret (pv 2))))))
    refine ⟨(by show 0 ≤ sizeLine; decide), fun D hD => ?_⟩
    have s1 := Same.new (o := .lst []) hD
    have c1 : upd H D (.lst []) D = some (.lst ((natV []).map V.int)) := upd_same
    generalize upd H D (.lst []) = H1 at s1 c1 ⊢
    dsimp only [gName]
    refine seqJ (fun σ' H' => ∃ (l : List Nat) (v1 : Option V), σ' = [some (.ref t), v1, some (.ref D)] ∧ H' D = some (.lst ((natV l).map V.int)) ∧ Same H H' ∧ l.length ≤ 300 ∧ Way os i l) (fun fin => ?_) ?_
    · refine ⟨fun mm σ' H' => ∃ (o : Option Int) (l : List Nat), σ' = [some (.ref t), some (oV o), some (.ref D)] ∧ H' D = some (.lst ((natV l).map V.int)) ∧ Same H H' ∧ ((o = none ∧ mm = 0 ∧ l.length ≤ 300 ∧ Way os i l) ∨ ∃ j b e : Nat, o = some (j : Int) ∧ IsReach ns j b e ∧ mm = ns.length + 1 - (e - b) ∧ l.length < e - b ∧ ∀ r, Way os j r → Way os i (l ++ r)), ?_, ?_⟩
      · obtain ⟨b, e, r, _⟩ := it.each i hi
        exact ⟨_, some (i : Int), [], rfl, c1, s1, .inr ⟨i, b, e, rfl, r, rfl, by have := r.bi; have := r.ie; show 0 < e - b; omega, fun r h => h⟩⟩
      · rintro mm σ' H2 ⟨o, l, rfl, cD, s2, ho⟩
        rcases ho with ⟨rfl, rfl, ll, hw⟩ | ⟨j, b, e, rfl, rj, rfl, ll, hw⟩
        · refine ⟨_, rfl, rfl, _, rfl, ?_⟩
          exact fin _ _ ⟨l, _, rfl, cD, s2, ll, hw⟩
        · refine ⟨_, rfl, rfl, _, rfl, ?_⟩
          have q1 := rj.bi; have q2 := rj.ie; have q3 := rj.en
          refine ⟨_, fun σ' H' y => y, ?_⟩
          refine ⟨_, rfl, .inl ⟨rfl, _, SqL.of cD⟩, ?_⟩
          refine ⟨_, rfl, D, _, _, rfl, rfl, cD, by rw [List.length_map]; unfold natV; rw [List.length_map]; exact small1000 (by omega), ?_⟩
          have s3 : Same H (upd H2 D (.lst ((natV l).map V.int ++ [V.int (j : Int)]))) := s2.at hD
          have c3 : upd H2 D (.lst ((natV l).map V.int ++ [V.int (j : Int)])) D = some (.lst ((natV (l ++ [j])).map V.int)) := by
            rw [upd_same]; unfold natV; rw [List.map_append, List.map_append]; rfl
          rw [show oV (some (j : Int)) = V.int (j : Int) from rfl]
          generalize upd H2 D (.lst ((natV l).map V.int ++ [V.int (j : Int)])) = H3 at s3 c3 ⊢
          obtain ⟨b', e', r', ho⟩ := it.each j (by omega)
          obtain ⟨rfl, rfl⟩ := rj.uniq r'
          have hat : atI (os.map oV) (j : Int) = some (oV (par ns b e)) := by
            exact atI_nat (by rw [List.getElem?_map, ho]; rfl)
          refine ⟨_, rfl, _, rfl, t, _, _, _, rfl, rfl, s3.seq hs, hat, ?_⟩
          dsimp only [gName]
          cases hp : par ns b e with
          | none =>
            refine ⟨0, by omega, none, l ++ [j], rfl, c3, s3, .inl ⟨rfl, rfl, by rw [List.length_append]; show l.length + 1 ≤ 300; omega, hw _ (.top (by rw [ho, hp]))⟩⟩
          | some k =>
            obtain ⟨k, rfl⟩ : ∃ n : Nat, k = (n : Int) := by
              rcases par_cases hp with z | z
              · exact ⟨e, z⟩
              · exact ⟨b - 1, by omega⟩
            have hk : k < ns.length := by rcases par_some rj hp with ⟨z, _⟩ | ⟨z, y, _⟩ <;> omega
            obtain ⟨bk, ek, rk⟩ := reach_ex hk
            have n2 := above_holds rj hp rk
            have q4 := rk.en
            refine ⟨ns.length + 1 - (ek - bk), by omega, some (k : Int), l ++ [j], rfl, c3, s3, .inr ⟨k, bk, ek, rfl, rk, rfl, by rw [List.length_append]; show l.length + 1 < ek - bk; omega, fun r hr' => ?_⟩⟩
            rw [List.append_assoc]
            exact hw _ (.step (by rw [ho, hp]) hr')
    rintro _ H2 ⟨l, v1, rfl, cD, s2, ll, hw⟩
    exact ⟨_, rfl, q D H2 l hD s2 cD ll hw⟩
end

end Law

set_option Elab.async false
set_option linter.all false
set_option maxRecDepth 100000
set_option maxHeartbeats 4000000
namespace Law
open PySem L2
section
variable {P : Program} {w : World} {K : PySem.W.Frag} {mg : Str → Option Value} {base : Heap}
def x_law_way : { t : Stmt // top 9 = t } := ⟨_, by conv => { lhs; whnf }⟩
abbrev s_law_way : Stmt := x_law_way.1
theorem sc_law_way : FnScope ["tree", "place", "found"] ["tree", "place"] (defScope s_law_way) := ⟨rfl, rfl, rfl, by decide +kernel, rfl, by decide +kernel, by decide +kernel⟩
theorem fn_law_way (B : Bl mg bls) (D : DefAt K mg "_law_way" s_law_way ["tree", "place"]) : Fn P w K mg base 1 "_law_way" ["tree", "place"] (spWay K) := by
  refine D.fn sc_law_way (fun vs H Q E h => ?_) (fun f cdv A outer s H vs Q E hr h => ?_)
  · obtain ⟨t, os, ns, i, rfl, _⟩ := h; rfl
  · obtain ⟨t, os, ns, i, rfl, hs, it, hl, hi, q⟩ := h
    refine' ⟨_, ?tm, ?rd⟩
    (case tm =>
      (conv => { arg 2; whnf })
      refine' pss_cons ?s0 ?r0
      (case s0 =>
        exact (ps_set (i := 2) sc_law_way.nd (by rfl) (by first | exact Or.inl rfl | exact Or.inr rfl) (pe_lst (pa_cons (pv 1) pa_nil))))
      (case r0 =>
        refine' pss_cons ?s0x ?r0x
        (case s0x =>
          refine' ps_while PassesOwn.never ?c0x ?d0x
          (case c0x => exact (pt_cmpR op_notN (pe_ix ix_list (pv 0) (pe_ix ix_list (pv 2) (pe_un un_neg pe_int) (fun _ _ => rfl)) (fun _ _ => rfl)) pe_non (nomark _)))
          (case d0x =>
            refine' pss_one ?s0xw
            (case s0xw =>
              exact (ps_expr (pe_bm PySem.F.plainAttrs_list PySem.F.slot_list_append PySem.F.type_list_append mt_append (pv 2) (pa_cons (pe_ix ix_list (pv 0) (pe_ix ix_list (pv 2) (pe_un un_neg pe_int) (fun _ _ => rfl)) (fun _ _ => rfl)) pa_nil))))))
        (case r0x =>
          refine' pss_one ?s0xx
          (case s0xx =>
            exact (ps_ret (pv 2))))))
    refine ⟨_, rfl, (by show 1 ≤ sizeLine; decide), fun D hD => ?_⟩
    have s1 := Same.new (o := .lst [.int (i : Int)]) hD
    have c1 : upd H D (.lst [.int (i : Int)]) D = some (.lst ((natV ([] ++ [i])).map V.int)) := upd_same
    generalize upd H D (.lst [.int (i : Int)]) = H1 at s1 c1 ⊢
    dsimp only [gName]
    have last : ∀ (l : List Nat) (j : Nat), atI ((natV (l ++ [j])).map V.int) (-1) = some (V.int (j : Int)) := fun l j => by
      unfold natV
      rw [List.map_append, List.map_append]
      exact atI_last _ _
    refine seqJ (fun σ' H' => ∃ (l : List Nat) (v1 : Option V), σ' = [some (.ref t), v1, some (.ref D)] ∧ H' D = some (.lst ((natV l).map V.int)) ∧ Same H H' ∧ l.length ≤ 300 ∧ Way os i l) (fun fin => ?_) ?_
    · refine ⟨fun mm σ' H' => ∃ (l : List Nat) (j b e : Nat) (v1 : Option V), σ' = [some (.ref t), v1, some (.ref D)] ∧ H' D = some (.lst ((natV (l ++ [j])).map V.int)) ∧ Same H H' ∧ IsReach ns j b e ∧ mm = ns.length + 1 - (e - b) ∧ l.length < e - b ∧ ∀ r, Way os j r → Way os i (l ++ r), ?_, ?_⟩
      · obtain ⟨b, e, r, _⟩ := it.each i hi
        exact ⟨_, [], i, b, e, _, rfl, c1, s1, r, rfl, by have := r.bi; have := r.ie; show 0 < e - b; omega, fun r h => h⟩
      · rintro mm σ' H2 ⟨l, j, b, e, v1, rfl, cD, s2, rj, rfl, ll, hw⟩
        have q1 := rj.bi; have q2 := rj.ie; have q3 := rj.en
        obtain ⟨b', e', r', ho⟩ := it.each j (by omega)
        obtain ⟨rfl, rfl⟩ := rj.uniq r'
        have hat : atI (os.map oV) (j : Int) = some (oV (par ns b e)) := atI_nat (by rw [List.getElem?_map, ho]; rfl)
        cases hp : par ns b e with
        | none =>
          rw [hp] at hat
          refine ⟨_, rfl, _, rfl, 1, rfl, D, _, _, _, rfl, rfl, SqL.of cD, last l j, t, _, _, _, rfl, rfl, s2.seq hs, hat, rfl, _, rfl, ?_⟩
          exact fin _ _ ⟨l ++ [j], _, rfl, cD, s2, by rw [List.length_append]; show l.length + 1 ≤ 300; omega, hw _ (.top (by rw [ho, hp]))⟩
        | some k =>
          rw [hp] at hat
          obtain ⟨k, rfl⟩ : ∃ n : Nat, k = (n : Int) := by
            rcases par_cases hp with z | z
            · exact ⟨e, z⟩
            · exact ⟨b - 1, by omega⟩
          have hk : k < ns.length := by rcases par_some rj hp with ⟨z, _⟩ | ⟨z, y, _⟩ <;> omega
          obtain ⟨bk, ek, rk⟩ := reach_ex hk
          have n2 := above_holds rj hp rk
          have q4 := rk.en
          refine ⟨_, rfl, _, rfl, 1, rfl, D, _, _, _, rfl, rfl, SqL.of cD, last l j, t, _, _, _, rfl, rfl, s2.seq hs, hat, rfl, _, rfl, ?_⟩
          refine ⟨_, fun σ' H' y => y, ?_⟩
          refine ⟨_, rfl, .inl ⟨rfl, _, SqL.of cD⟩, _, rfl, _, rfl, 1, rfl, D, _, _, _, rfl, rfl, SqL.of cD, last l j, t, _, _, _, rfl, rfl, s2.seq hs, hat, D, _, _, rfl, rfl, cD, by rw [List.length_map]; unfold natV; rw [List.length_map, List.length_append]; exact small1000 (by show l.length + 1 ≤ 1000; omega), ?_⟩
          refine ⟨ns.length + 1 - (ek - bk), by omega, l ++ [j], k, bk, ek, _, rfl, ?_, s2.at hD, rk, rfl, by rw [List.length_append]; show l.length + 1 < ek - bk; omega, fun r hr' => ?_⟩
          · rw [upd_same]; unfold natV; rw [List.map_append (l₁ := l ++ [j]), List.map_append (l₁ := (l ++ [j]).map _)]; rfl
          · rw [List.append_assoc]
            exact hw _ (.step (by rw [ho, hp]) hr')
    rintro _ H2 ⟨l, v1, rfl, cD, s2, ll, hw⟩
    exact ⟨_, rfl, q D H2 l hD s2 cD ll hw⟩
end

end Law

set_option Elab.async false
set_option linter.all false
set_option maxRecDepth 100000
set_option maxHeartbeats 4000000
namespace Law
open PySem L2
def spLow (K : PySem.W.Frag) : Sp := fun vs H Q _ => ∃ (t : Addr) (os : List (Option Int)) (ns : List Int) (i k : Nat), vs = [.ref t, .int (i : Nat), .int (k : Nat)] ∧ SqL K H t (os.map oV) ∧ IsTree ns os ∧ ns.length ≤ 300 ∧ i < ns.length ∧ k < ns.length ∧ ∀ (H' : Hp) (m : Nat), Same H H' → IsLow ns i k m → Q (.int (m : Nat)) H'
section
variable {P : Program} {w : World} {K : PySem.W.Frag} {mg : Str → Option Value} {base : Heap}
def xlowest_above : { t : Stmt // top 2 = t } := ⟨_, by conv => { lhs; whnf }⟩
abbrev slowest_above : Stmt := xlowest_above.1
theorem sclowest_above : FnScope ["tree", "one", "other", "above_other", "place", "above_both"] ["tree", "one", "other"] (defScope slowest_above) := ⟨rfl, rfl, rfl, by decide +kernel, rfl, by decide +kernel, by decide +kernel⟩
theorem fn_lowest_above (B : Bl mg bls) (D : DefAt K mg "lowest_above" slowest_above ["tree", "one", "other"]) (Fplaces_above : Fn P w K mg base 1 "places_above" ["tree", "place"] (spWay K)) : Fn P w K mg base 2 "lowest_above" ["tree", "one", "other"] (spLow K) := by
  refine D.fn sclowest_above (fun vs H Q E h => ?_) (fun f cdv A outer s H vs Q E hr h => ?_)
  · obtain ⟨t, os, ns, i, k, rfl, _⟩ := h; rfl
  · obtain ⟨t, os, ns, i, k, rfl, hs, it, hl, hi, hk, q⟩ := h
    refine' ⟨_, ?tm, ?rd⟩
    (case tm =>
      (conv => { arg 2; whnf })
      refine' pss_cons ?s0 ?r0
      (case s0 =>
        exact (ps_set (i := 3) sclowest_above.nd (by rfl) (by first | exact Or.inl rfl | exact Or.inr rfl) (pe_dcT (by rfl) (pe_fn Fplaces_above hr (by rfl) (pa_cons (pv 0) (pa_cons (pv 2) pa_nil))) (by decide) (by decide) rfl (by decide) rfl (by decide))))
      (case r0 =>
        refine' pss_cons ?s0x ?r0x
        (case s0x =>
          exact (ps_setLc (i := 5) (own := [("place", 4)]) (g := (gName 4)) (by rfl) sclowest_above.nd (by rfl) (by rfl) (sw_true (by rfl) (by rfl) (by rfl) (by decide +kernel)) (pi_list (pe_fn Fplaces_above hr (by rfl) (pa_cons (pv 0) (pa_cons (pv 1) pa_nil)))) (blkOk_by (own := [("place", 4)]) (N := ["tree", "one", "other", "above_other", "place", "above_both"]) (sc := defScope slowest_above) (by decide +kernel)) (fun _ _ _ _ _ => (pg_name (i := 4) sclowest_above.nd (by rfl) (by first | exact Or.inl rfl | exact Or.inr rfl))) (fun _ _ _ _ _ => (pts_one (pt_cmpR op_inT (pv 4) (pv 3) (by rfl)))) (fun _ _ _ _ _ => (pv 4))))
        (case r0x =>
          refine' pss_one ?s0xx
          (case s0xx =>
            exact (ps_ret (pe_ix ix_list (pv 5) pe_int (fun _ _ => rfl)))))))
    refine ⟨_, rfl, _, rfl, t, os, ns, k, rfl, hs, it, hl, hk, fun lk H1 l' f1 s1 c1 ll' w' => ?_⟩
    refine ⟨lk, _, rfl, SqL.of c1, fun dd ks hdd hks => ?_⟩
    have s2 := Same.new (o := .dK (dkT ks)) hdd
    have cdd : upd H1 dd (.dK (dkT ks)) dd = some (.dK (dkT ks)) := upd_same
    generalize upd H1 dd (.dK (dkT ks)) = H2 at s2 cdd ⊢
    dsimp only [gName]
    refine ⟨_, rfl, _, rfl, t, os, ns, i, rfl, (s1.trans s2).seq hs, it, hl, hi, fun li H3 l f3 s3 c3 ll wy => ?_⟩
    have hdk : ∀ n : Nat, (n : Int) ∈ ks ↔ n ∈ l' := fun n => by
      rw [hks]; unfold natV
      rw [List.mem_map]
      constructor
      · rintro ⟨x, hx, e⟩; have : x = n := by omega
        rw [← this]; exact hx
      · intro h; exact ⟨n, h, rfl⟩
    refine ⟨li, rfl, ⟨_, SqL.of c3⟩, fun D hD => lc_list (K := K) (a := li) (xs := (natV l).map V.int) (fun j H' => H' D = some (.lst ((natV ((l.take j).filter fun x => decide (x ∈ l'))).map V.int)) ∧ Same H3 H') ⟨upd_same, Same.new hD⟩ (fun j H' _ ⟨_, z⟩ => SqL.of (z _ _ c3)) ?_ ?_⟩
    · rintro j x H4 hx ⟨cD, s4⟩
      obtain ⟨n, hn, rfl⟩ := get_ints hx
      unfold natV at hn
      rw [List.getElem?_map] at hn
      cases hm : l[j]? with
      | none => rw [hm] at hn; cases hn
      | some m =>
        rw [hm] at hn
        obtain rfl : (m : Int) = n := Option.some.inj hn
        have hj : j < l.length := (List.getElem?_eq_some_iff.mp hm).1
        have etk : l.take (j + 1) = l.take j ++ [m] := by rw [List.take_succ, hm]; rfl
        refine ⟨rfl, _, rfl, _, rfl, _, dd, ks, rfl, rfl, (s3.trans s4) _ _ cdd, _, rfl, ?_⟩
        refine ite2 (fun z => ?_) (fun z => ?_)
        · have hml := (hdk m).mp (of_decide_eq_true z)
          have fl : ((l.take j).filter fun x => decide (x ∈ l')).length ≤ 300 := Nat.le_trans (List.length_filter_le _ _) (by rw [List.length_take]; omega)
          refine ⟨_, rfl, _, cD, by rw [List.length_map]; unfold natV; rw [List.length_map]; exact small1000 (by omega), ?_, s4.at hD⟩
          rw [upd_same, etk, List.filter_append, List.filter_cons, if_pos (decide_eq_true hml)]
          unfold natV
          rw [List.map_append, List.map_append]; rfl
        · have hml : ¬ m ∈ l' := fun y => z (decide_eq_true ((hdk m).mpr y))
          refine ⟨?_, s4⟩
          rw [etk, List.filter_append, List.filter_cons, if_neg (by rw [decide_eq_false hml]; decide)]
          show H4 D = some (.lst ((natV (_ ++ [])).map V.int))
          rw [List.append_nil]; exact cD
    · rintro H4 ⟨cD, s4⟩
      dsimp only [gName]
      have elen : ((natV l).map V.int).length = l.length := by unfold natV; rw [List.length_map, List.length_map]
      rw [elen, List.take_length] at cD
      obtain ⟨m, rest, e1, e2⟩ := wy.first it w' hk hi
      rw [e1] at cD
      exact ⟨_, rfl, D, _, _, .int (m : Int), rfl, rfl, SqL.of cD, atI_nat (j := 0) rfl, q _ m (s1.trans (s2.trans (s3.trans s4))) e2⟩
end

end Law

set_option Elab.async false
set_option linter.all false
set_option maxRecDepth 100000
set_option maxHeartbeats 4000000
namespace Law
open PySem L2
theorem rIndex_min {K : PySem.W.Frag} {H : Hp} {p : Addr} {L : List Int} {Q : VK} (h : SqL K H p (L.map V.int)) (hL : L ≠ []) (q : Q (.int (pl L : Nat)) H) : rIndex K (.ref p) [.int (minL L)] H Q := by
  have hmem := (minL_spec hL).1
  obtain ⟨f1, f2, f3⟩ := fst_at hmem
  refine ⟨p, _, .int (minL L), fst (minL L) L, .int (minL L), rfl, rfl, h, rfl, ?_, ?_, ?_, ?_, q⟩
  · rw [List.all_eq_true]
    intro x hx
    obtain ⟨n, _, rfl⟩ := List.mem_map.mp hx
    rfl
  · rw [List.getElem?_map, f1]; rfl
  · show (minL L == minL L) = true
    exact beq_self_eq_true _
  · intro m' z' hm' q'
    rw [List.getElem?_map] at q'
    cases e' : L[m']? with
    | none => rw [e'] at q'; cases q'
    | some n =>
      rw [e'] at q'
      have q'' : V.int n = z' := Option.some.inj q'
      subst q''
      show (n == minL L) = false
      exact beq_eq_false_iff_ne.mpr (f3 m' n hm' e')

def spWholeO : Sp := fun vs H Q _ => ∃ o : Option Int, vs = [oV o] ∧ Q (.bl o.isSome) H
theorem inV_nat (m : Nat) (l : List Nat) : inV (.int (m : Int)) ((natV l).map V.int) = decide (m ∈ l) := by
  rw [Bool.eq_iff_iff]
  unfold inV natV
  rw [List.any_eq_true, decide_eq_true_iff]
  constructor
  · rintro ⟨y, hy, e⟩
    obtain ⟨z, hz, rfl⟩ := List.mem_map.mp hy
    obtain ⟨x, hx, rfl⟩ := List.mem_map.mp hz
    have e' : ((x : Int) == (m : Int)) = true := e
    have : (x : Int) = m := by simpa using e'
    rw [show m = x by omega]; exact hx
  · intro h
    exact ⟨_, List.mem_map.mpr ⟨_, List.mem_map.mpr ⟨m, h, rfl⟩, rfl⟩, (beq_self_eq_true (m : Int))⟩
theorem low_pl {ns : List Int} {i k b e : Nat} (hb : b = min i k) (he : e = max i k + 1) (hn : e ≤ ns.length) : IsLow ns i k (b + pl (seg ns (b : Int) (e : Int))) := by
  have hlt : b < e := by omega
  have st : IsSt ns.length (b : Int) (e : Int) := ⟨by omega, by omega, by omega⟩
  obtain ⟨f1, f2, f3⟩ := fst_at (minL_spec (seg_ne st)).1
  have sl := seg_len st
  have hp : pl (seg ns (b : Int) (e : Int)) < e - b := by unfold pl; omega
  have la := least_at hlt hn
  have ne := segN_ne hlt hn
  have hle : ∀ j, b ≤ j → j < e → vl ns (b + pl (seg ns (b : Int) (e : Int))) ≤ vl ns j := fun j j1 j2 => by
    rw [la]; exact (minL_spec ne).2 _ ((mem_segN hn).mpr ⟨j, j1, j2, rfl⟩)
  refine ⟨by omega, by omega, fun j j1 j2 => ?_, fun j j1 j2 => hle j (by omega) (by omega)⟩
  have h1 := hle j (by omega) (by omega)
  rcases Int.lt_or_le (vl ns (b + pl (seg ns (b : Int) (e : Int)))) (vl ns j) with z | z
  · exact z
  · exfalso
    have ej : vl ns j = minL (seg ns (b : Int) (e : Int)) := by rw [← la]; omega
    have hj' : (seg ns (b : Int) (e : Int))[j - b]? = some (minL (seg ns (b : Int) (e : Int))) := by
      rw [seg_get (by omega) (by omega), show (b : Int).toNat + (j - b) = j by omega, ← ej]
      unfold vl
      rw [List.getD_eq_getElem?_getD, List.getElem?_eq_getElem (show j < ns.length by omega)]; rfl
    exact f3 (j - b) _ (by unfold pl at j2; omega) hj' rfl
def spPair (K : PySem.W.Frag) : Sp := fun vs H Q _ => ∃ (a t : Addr) (os : List (Option Int)) (ns : List Int) (i k : Nat), vs = [.ref a, .ref t, .int (i : Nat), .int (k : Nat)] ∧ H a = some (.lst (ns.map V.int)) ∧ H t = some (.lst (os.map oV)) ∧ IsTree ns os ∧ ns.length ≤ 300 ∧ i < ns.length ∧ k < ns.length ∧ ∀ H', Same H H' → Q (.bl true) H'
section
variable {P : Program} {w : World} {K : PySem.W.Frag} {mg : Str → Option Value} {base : Heap}
def x_law_whole : { t : Stmt // top 7 = t } := ⟨_, by conv => { lhs; whnf }⟩
abbrev s_law_whole : Stmt := x_law_whole.1
theorem sc_law_whole : FnScope ["thing"] ["thing"] (defScope s_law_whole) := ⟨rfl, rfl, rfl, by decide +kernel, rfl, by decide +kernel, by decide +kernel⟩
theorem fn_law_wholeO (B : Bl mg bls) (D : DefAt K mg "_law_whole" s_law_whole ["thing"]) : Fn P w K mg base 1 "_law_whole" ["thing"] spWholeO := by
  refine D.fn sc_law_whole (fun vs H Q E h => ?_) (fun f cdv A outer s H vs Q E hr h => ?_)
  · obtain ⟨i, rfl, _⟩ := h; rfl
  · obtain ⟨o, rfl, q⟩ := h
    refine' ⟨_, ?tm, ?rd⟩
    (case tm =>
      (conv => { arg 2; whnf })
      refine' pss_one ?s0
      (case s0 =>
        exact (ps_ret (pe_and (pe_callB call_isinst (by rfl) (B "isinstance" (by decide +kernel)) (by decide +kernel) (pa_cons (pv 0) (pa_cons (pe_bltn (v := .ty "int") (by rfl) (B "int" (by decide +kernel)) (by decide +kernel) rfl) pa_nil))) (pe_one (pe_not (pe_callB call_isinst (by rfl) (B "isinstance" (by decide +kernel)) (by decide +kernel) (pa_cons (pv 0) (pa_cons (pe_bltn (v := .ty "bool") (by rfl) (B "bool" (by decide +kernel)) (by decide +kernel) rfl) pa_nil)))))))))
    cases o with
    | none => exact ⟨_, rfl, _, _, _, false, rfl, TyOf.non, (by rfl), _, rfl, q⟩
    | some i =>
      refine ⟨_, rfl, _, _, _, true, rfl, TyOf.int i, (by rfl), _, rfl, ?_⟩
      refine ⟨_, rfl, _, _, _, false, rfl, TyOf.int i, (by rfl), _, rfl, q⟩
def x_law_pair_right : { t : Stmt // top 10 = t } := ⟨_, by conv => { lhs; whnf }⟩
abbrev s_law_pair_right : Stmt := x_law_pair_right.1
theorem sc_law_pair_right : FnScope ["row", "tree", "one", "other", "handed", "found", "beside", "due", "place", "begin", "end", "least"] ["row", "tree", "one", "other"] (defScope s_law_pair_right) := ⟨rfl, rfl, rfl, by decide +kernel, rfl, by decide +kernel, by decide +kernel⟩
theorem fn_pair (B : Bl mg bls) (D : DefAt K mg "_law_pair_right" s_law_pair_right ["row", "tree", "one", "other"]) (Flowest_above : Fn P w K mg base 2 "lowest_above" ["tree", "one", "other"] (spLow K)) (F_law_way : Fn P w K mg base 1 "_law_way" ["tree", "place"] (spWay K)) (F_law_whole : Fn P w K mg base 1 "_law_whole" ["thing"] spWholeO) : Fn P w K mg base 3 "_law_pair_right" ["row", "tree", "one", "other"] (spPair K) := by
  refine D.fn sc_law_pair_right (fun vs H Q E h => ?_) (fun f cdv A outer s H vs Q E hr h => ?_)
  · obtain ⟨a, t, os, ns, i, k, rfl, _⟩ := h; rfl
  · obtain ⟨a, t, os, ns, i, k, rfl, ca, ct, it, hl, hi, hk, q⟩ := h
    refine' ⟨_, ?tm, ?rd⟩
    (case tm =>
      (conv => { arg 2; whnf })
      refine' pss_cons ?s0 ?r0
      (case s0 =>
        exact (ps_set (i := 4) sc_law_pair_right.nd (by rfl) (by first | exact Or.inl rfl | exact Or.inr rfl) (pe_callTy call_list_of (by rfl) (B "list" (by decide +kernel)) (by decide +kernel) (pa_cons (pv 1) pa_nil))))
      (case r0 =>
        refine' pss_cons ?s0x ?r0x
        (case s0x =>
          exact (ps_set (i := 5) sc_law_pair_right.nd (by rfl) (by first | exact Or.inl rfl | exact Or.inr rfl) (pe_fn Flowest_above hr (by rfl) (pa_cons (pv 4) (pa_cons (pv 2) (pa_cons (pv 3) pa_nil))))))
        (case r0x =>
          refine' pss_cons ?s0xx ?r0xx
          (case s0xx =>
            exact (ps_set (i := 6) sc_law_pair_right.nd (by rfl) (by first | exact Or.inl rfl | exact Or.inr rfl) (pe_fn F_law_way hr (by rfl) (pa_cons (pv 1) (pa_cons (pv 3) pa_nil)))))
          (case r0xx =>
            refine' pss_cons ?s0xxx ?r0xxx
            (case s0xxx =>
              exact (ps_set (i := 7) sc_law_pair_right.nd (by rfl) (by first | exact Or.inl rfl | exact Or.inr rfl) (pe_ix ix_list (pe_lc (own := [("place", 8)]) (g := (gName 8)) (by rfl) sc_law_pair_right.nd (pi_list (pe_fn F_law_way hr (by rfl) (pa_cons (pv 1) (pa_cons (pv 2) pa_nil)))) (blkOk_by (own := [("place", 8)]) (N := ["row", "tree", "one", "other", "handed", "found", "beside", "due", "place", "begin", "end", "least"]) (sc := defScope s_law_pair_right) (by decide +kernel)) (fun _ _ _ _ _ => (pg_name (i := 8) sc_law_pair_right.nd (by rfl) (by first | exact Or.inl rfl | exact Or.inr rfl))) (fun _ _ _ _ _ => (pts_one (pt_cmpR (op_in_seqK (K := K) (by rfl)) (pv 8) (pv 6) (by rfl)))) (fun _ _ _ _ _ => (pv 8))) pe_int (fun _ _ => rfl))))
            (case r0xxx =>
              refine' pss_cons ?s0xxxx ?r0xxxx
              (case s0xxxx =>
                exact (ps_par (i := 9) (j := 10) (by rfl) sc_law_pair_right.nd rfl rfl (by decide) rfl rfl (pa_cons (pe_callB (call_min2 rfl) (by rfl) (B "min" (by decide +kernel)) (by decide +kernel) (pa_cons (pv 2) (pa_cons (pv 3) pa_nil))) (pa_cons (pe_op op_add (pe_callB (call_max2 rfl) (by rfl) (B "max" (by decide +kernel)) (by decide +kernel) (pa_cons (pv 2) (pa_cons (pv 3) pa_nil))) pe_int) pa_nil)) (by rfl)))
              (case r0xxxx =>
                refine' pss_cons ?s0xxxxx ?r0xxxxx
                (case s0xxxxx =>
                  exact (ps_set (i := 11) sc_law_pair_right.nd (by rfl) (by first | exact Or.inl rfl | exact Or.inr rfl) (pe_op op_add (pv 9) (pe_bm PySem.F.plainAttrs_list PySem.F.slot_list_index PySem.F.type_list_index mt_index (pe_slice sl_list (pv 0) (po_some (pv 9)) (po_some (pv 10))) (pa_cons (pe_callB (cr_min rfl) (by rfl) (B "min" (by decide +kernel)) (by decide +kernel) (pa_cons (pe_slice sl_list (pv 0) (po_some (pv 9)) (po_some (pv 10))) pa_nil)) pa_nil)))))
                (case r0xxxxx =>
                  refine' pss_one ?s0xxxxxx
                  (case s0xxxxxx =>
                    exact (ps_ret (pe_and (pe_fn F_law_whole hr (by rfl) (pa_cons (pv 5) pa_nil)) (pe_and (pe_cmpR op_eq (pv 5) (pv 7) (nomark _)) (pe_and (pe_cmpR op_eq (pv 5) (pv 11) (nomark _)) (pe_one (pe_cmpR (op_eqLO hr.units) (pv 4) (pv 1) (nomark _)))))))))))))))
    refine ⟨_, rfl, t, _, rfl, .inl (SqL.of ct), fun h hh => ?_⟩
    have s1 := Same.new (o := .lst (os.map oV)) hh
    have ch : upd H h (.lst (os.map oV)) h = some (.lst (os.map oV)) := upd_same
    generalize upd H h (.lst (os.map oV)) = H1 at s1 ch ⊢
    dsimp only [gName]
    refine ⟨_, rfl, _, rfl, _, rfl, h, os, ns, i, k, rfl, SqL.of ch, it, hl, hi, hk, fun H2 m s2 lo => ?_⟩
    dsimp only [gName]
    have s12 := s1.trans s2
    refine ⟨_, rfl, _, rfl, t, os, ns, k, rfl, SqL.of (s12 _ _ ct), it, hl, hk, fun be H3 l' f3 s3 c3 ll' w' => ?_⟩
    dsimp only [gName]
    have s13 := s12.trans s3
    refine ⟨_, rfl, _, rfl, t, os, ns, i, rfl, SqL.of (s13 _ _ ct), it, hl, hi, fun li H4 l f4 s4 c4 ll wy => ?_⟩
    refine ⟨li, rfl, ⟨_, SqL.of c4⟩, fun D hD => lc_list (K := K) (a := li) (xs := (natV l).map V.int) (fun j H' => H' D = some (.lst ((natV ((l.take j).filter fun x => decide (x ∈ l'))).map V.int)) ∧ Same H4 H') ⟨upd_same, Same.new hD⟩ (fun j H' _ ⟨_, z⟩ => SqL.of (z _ _ c4)) ?_ ?_⟩
    · rintro j x H5 hx ⟨cD, s5⟩
      obtain ⟨n, hn, rfl⟩ := get_ints hx
      unfold natV at hn
      rw [List.getElem?_map] at hn
      cases hm : l[j]? with
      | none => rw [hm] at hn; cases hn
      | some m' =>
        rw [hm] at hn
        obtain rfl : (m' : Int) = n := Option.some.inj hn
        have hj : j < l.length := (List.getElem?_eq_some_iff.mp hm).1
        have etk : l.take (j + 1) = l.take j ++ [m'] := by rw [List.take_succ, hm]; rfl
        refine ⟨rfl, _, rfl, _, rfl, be, _, rfl, .inl (SqL.of ((s4.trans s5) _ _ c3)), rfl, ?_, ?_⟩
        · rw [List.all_eq_true]; intro y hy
          obtain ⟨z, _, rfl⟩ := List.mem_map.mp hy
          rfl
        show ∃ k, V.bl (inV (.int (m' : Int)) ((natV l').map V.int)) = .bl k ∧ _
        rw [inV_nat]
        refine ⟨_, rfl, ?_⟩
        refine ite2 (fun z => ?_) (fun z => ?_)
        · have fl : ((l.take j).filter fun x => decide (x ∈ l')).length ≤ 300 := Nat.le_trans (List.length_filter_le _ _) (by rw [List.length_take]; omega)
          refine ⟨_, rfl, _, cD, by rw [List.length_map]; unfold natV; rw [List.length_map]; exact small1000 (by omega), ?_, s5.at hD⟩
          rw [upd_same, etk, List.filter_append, List.filter_cons, if_pos z]
          unfold natV
          rw [List.map_append, List.map_append]; rfl
        · refine ⟨?_, s5⟩
          rw [etk, List.filter_append, List.filter_cons, if_neg z]
          show H5 D = some (.lst ((natV (_ ++ [])).map V.int))
          rw [List.append_nil]; exact cD
    rintro H5 ⟨cD, s5⟩
    have elen : ((natV l).map V.int).length = l.length := by unfold natV; rw [List.length_map, List.length_map]
    rw [elen, List.take_length] at cD
    obtain ⟨m', rest, e1, e2⟩ := wy.first it w' hk hi
    obtain rfl := e2.uniq lo
    rw [e1] at cD
    refine ⟨D, _, _, .int (m' : Int), rfl, rfl, SqL.of cD, atI_nat (j := 0) rfl, ?_⟩
    dsimp only [gName]
    have s15 := s13.trans (s4.trans s5)
    have ca5 := s15 _ _ ca
    refine ⟨_, rfl, _, rfl, _, _, rfl, _, rfl, _, rfl, _, _, rfl, _, _, rfl, rfl, ?_⟩
    have eb : (if (k : Int) < (i : Int) then (k : Int) else (i : Int)) = ((min i k : Nat) : Int) := by split <;> omega
    have ee : (if (k : Int) > (i : Int) then (k : Int) else (i : Int)) + 1 = ((max i k + 1 : Nat) : Int) := by split <;> omega
    refine ⟨_, _, rfl, ?_⟩
    dsimp only
    rw [eb, ee]
    obtain ⟨b, hb⟩ : ∃ b : Nat, min i k = b := ⟨_, rfl⟩
    obtain ⟨e, he⟩ : ∃ e : Nat, max i k + 1 = e := ⟨_, rfl⟩
    have hen : e ≤ ns.length := by omega
    have lo2 := low_pl (ns := ns) hb.symm he.symm hen
    rw [hb, he]
    have st : IsSt ns.length (b : Int) (e : Int) := ⟨by omega, by omega, by omega⟩
    refine ⟨_, rfl, _, rfl, _, rfl, _, rfl, _, rfl, _, rfl, a, _, rfl, SqL.of ca5, fun p2 hp2 => ?_⟩
    rw [cut_ints, seg_cut st]
    have s8 := Same.new (o := .lst ((seg ns (b : Int) (e : Int)).map V.int)) hp2
    have cp2 : upd H5 p2 (.lst ((seg ns (b : Int) (e : Int)).map V.int)) p2 = some (.lst ((seg ns (b : Int) (e : Int)).map V.int)) := upd_same
    generalize upd H5 p2 (.lst ((seg ns (b : Int) (e : Int)).map V.int)) = H8 at s8 cp2 ⊢
    refine ⟨.inl ⟨rfl, _, SqL.of cp2⟩, _, rfl, _, rfl, _, rfl, _, rfl, _, rfl, a, _, rfl, SqL.of (s8.ap ca5), fun p3 hp3 => ?_⟩
    rw [cut_ints, seg_cut st]
    have s9 := Same.new (o := .lst ((seg ns (b : Int) (e : Int)).map V.int)) hp3
    have cp3 : upd H8 p3 (.lst ((seg ns (b : Int) (e : Int)).map V.int)) p3 = some (.lst ((seg ns (b : Int) (e : Int)).map V.int)) := upd_same
    generalize upd H8 p3 (.lst ((seg ns (b : Int) (e : Int)).map V.int)) = H9 at s9 cp3 ⊢
    refine ⟨p3, _, rfl, SqL.of cp3, List.length_pos_iff.mpr (seg_ne st), fun mn' h1' h2' => ?_⟩
    rw [← minL_uniq h1' h2']
    dsimp only [tNil]
    refine rIndex_min (SqL.of (s9 _ _ cp2)) (seg_ne st) ?_
    refine ⟨_, _, rfl, rfl, ?_⟩
    have em := lo2.uniq lo
    have epl : (b : Int) + ((pl (seg ns (b : Int) (e : Int)) : Nat) : Int) = (m' : Int) := by omega
    dsimp only [gName]
    rw [epl]
    have s19 := s15.trans (s8.trans s9)
    refine ⟨_, rfl, some (m' : Int), rfl, _, rfl, ?_⟩
    refine ⟨_, rfl, _, rfl, rfl, _, rfl, ?_⟩
    rw [decide_eq_true rfl]
    refine ⟨_, rfl, _, rfl, rfl, _, rfl, ?_⟩
    rw [decide_eq_true rfl]
    refine ⟨_, rfl, _, rfl, h, t, os, os, rfl, rfl, SqL.of ((s2.trans (s3.trans (s4.trans (s5.trans (s8.trans s9))))) _ _ ch), SqL.of (s19 _ _ ct), ?_⟩
    rw [decide_eq_true rfl]
    exact q _ s19
end

end Law

set_option Elab.async false
set_option linter.all false
set_option maxRecDepth 100000
set_option maxHeartbeats 4000000
namespace Law
open PySem L2
def spTree (K : PySem.W.Frag) : Sp := fun vs H Q _ => ∃ (a : Addr) (ns : List Int), vs = [.ref a] ∧ SqL K H a (ns.map V.int) ∧ ns.length ≤ 300 ∧ ∀ (p : Addr) (H' : Hp) (os : List (Option Int)), Same H H' → H p = none → H' p = some (.lst (os.map oV)) → IsTree ns os → Q (.ref p) H'
structure WI where
  b : Nat
  e : Nat
  o : Option Int
def wiL (w : WI) : List V := [.int (w.b : Int), .int (w.e : Int), oV w.o]
def wiD (w : WI) : PyData := .tuple [.int (w.b : Int), .int (w.e : Int), oD w.o]
def WAt (H : Hp) (ts : List Addr) (ws : List WI) : Prop := ts.length = ws.length ∧ ∀ (j : Nat) (t : Addr) (w : WI), ts[j]? = some t → ws[j]? = some w → H t = some (.tup (wiL w))
theorem WAt.same {H H' : Hp} {ts : List Addr} {ws : List WI} (h : WAt H ts ws) (s : Same H H') : WAt H' ts ws := ⟨h.1, fun j t x h1 h2 => s _ _ (h.2 j t x h1 h2)⟩
theorem WAt.at {H : Hp} {ts : List Addr} {ws : List WI} {D : Addr} {us ys : List V} (h : WAt H ts ws) (hD : H D = some (.lst us)) : WAt (upd H D (.lst ys)) ts ws := ⟨h.1, fun j t x h1 h2 => by
  have c := h.2 j t x h1 h2
  rw [upd_ne fun z => by rw [z, hD] at c; cases c]
  exact c⟩
theorem WAt.app {H : Hp} {ts us : List Addr} {xs ys : List WI} (h : WAt H ts xs) (k : WAt H us ys) : WAt H (ts ++ us) (xs ++ ys) := by
  refine ⟨by rw [List.length_append, List.length_append, h.1, k.1], fun j t x h1 h2 => ?_⟩
  rcases Nat.lt_or_ge j ts.length with z | z
  · rw [List.getElem?_append_left z] at h1
    rw [List.getElem?_append_left (by rw [← h.1]; exact z)] at h2
    exact h.2 j t x h1 h2
  · rw [List.getElem?_append_right z] at h1
    rw [List.getElem?_append_right (by rw [← h.1]; exact z), ← h.1] at h2
    exact k.2 _ t x h1 h2
theorem WAt.one {H : Hp} {t : Addr} {x : WI} (h : H t = some (.tup (wiL x))) : WAt H [t] [x] := ⟨rfl, fun j t' x' h1 h2 => by
  match j, h1, h2 with
  | 0, h1, h2 =>
    have e1 : t = t' := by simpa using h1
    have e2 : x = x' := by simpa using h2
    subst e1 e2
    exact h
  | j + 1, h1, _ => simp at h1⟩
theorem WAt.front {H : Hp} {ts : List Addr} {t : Addr} {xs : List WI} {x : WI} (h : WAt H (ts ++ [t]) (xs ++ [x])) : WAt H ts xs ∧ H t = some (.tup (wiL x)) := by
  have hl : ts.length = xs.length := by have := h.1; rw [List.length_append, List.length_append] at this; simpa using this
  refine ⟨⟨hl, fun j t' x' h1 h2 => h.2 j t' x' ?_ ?_⟩, h.2 ts.length t x ?_ ?_⟩
  · rw [List.getElem?_append_left (List.getElem?_eq_some_iff.mp h1).1]; exact h1
  · rw [List.getElem?_append_left (List.getElem?_eq_some_iff.mp h2).1]; exact h2
  · simp
  · rw [hl]; simp
theorem dpW {K : PySem.W.Frag} {H : Hp} : ∀ {ts : List Addr} {ws : List WI}, WAt H ts ws → DpAll K H (ts.map V.ref) (ws.map wiD)
  | [], [], _ => .nil
  | [], _ :: _, h => absurd h.1 (by simp)
  | _ :: _, [], h => absurd h.1 (by simp)
  | t :: ts, w :: ws, h => by
    have c := h.2 0 t w rfl rfl
    refine .cons (.tup (SqT.of c) (.cons (.int _) (.cons (.int _) (.cons ?_ .nil)))) (dpW ⟨by simpa using h.1, fun j t' w' h1 h2 => h.2 (j + 1) t' w' (by simpa using h1) (by simpa using h2)⟩)
    cases w.o with
    | none => exact .non
    | some n => exact .int n
theorem canLayO (o : Option Int) : PyData.canLay0 (oD o) = true := by cases o <;> rfl
theorem depthO (o : Option Int) : PyData.depth (oD o) = 0 := by cases o <;> rfl
theorem canLayW : ∀ ws : List WI, PyData.canLayAll0 (ws.map wiD) = true
  | [] => rfl
  | w :: r => by rw [List.map_cons]; simp [PyData.canLayAll0, PyData.canLay0, canLayW r, wiD, canLayO]
theorem depthW : ∀ ws : List WI, PyData.depthAll (ws.map wiD) ≤ 3
  | [] => by simp [PyData.depthAll]
  | w :: r => by have := depthW r; rw [List.map_cons]; simp only [PyData.depthAll, PyData.depth, wiD, depthO]; omega
theorem shapedW (ws : List WI) : SeqAt.shaped (.list (ws.map wiD)) = true := by
  have h1 := canLayW ws
  have h2 := depthW ws
  unfold SeqAt.shaped
  simp only [PyData.canLay0, PyData.depth, h1, Bool.true_and]
  exact decide_eq_true (by omega)
theorem eqvW (ws : List WI) : PyData.eqv (.list (ws.map wiD)) (.list []) = ws.isEmpty := by
  cases ws <;> simp [PyData.eqv, PyData.eqvAll]
/-- a part that waits -/
structure Pend (ns : List Int) (w : WI) : Prop where
  be : w.b ≤ w.e
  en : w.e ≤ ns.length
  o : w.o = par ns w.b w.e
  lo : w.b = 0 ∨ ∀ k, w.b ≤ k → k < w.e → vl ns (w.b - 1) ≤ vl ns k
  hi : w.e = ns.length ∨ ∀ k, w.b ≤ k → k < w.e → vl ns w.e < vl ns k
def msr : List WI → Nat
  | [] => 0
  | w :: r => (2 * (w.e - w.b) + 1) + msr r
theorem msr_app : ∀ (xs ys : List WI), msr (xs ++ ys) = msr xs + msr ys
  | [], ys => by simp [msr]
  | x :: xs, ys => by simp only [List.cons_append, msr, msr_app xs ys]; omega
theorem msr_len : ∀ ws : List WI, ws.length ≤ msr ws
  | [] => Nat.le_refl _
  | w :: r => by have := msr_len r; simp only [List.length_cons, msr]; omega
theorem Pend.first {ns : List Int} {w : WI} (h : Pend ns w) (hlt : w.b < w.e) : IsReach ns (w.b + pl (seg ns (w.b : Int) (w.e : Int))) w.b w.e ∧ w.b + pl (seg ns (w.b : Int) (w.e : Int)) < w.e := by
  have hen := h.en
  have st : IsSt ns.length (w.b : Int) (w.e : Int) := ⟨by omega, by omega, by omega⟩
  obtain ⟨f1, f2, f3⟩ := fst_at (minL_spec (seg_ne st)).1
  have sl := seg_len st
  have hp : pl (seg ns (w.b : Int) (w.e : Int)) < w.e - w.b := by unfold pl; omega
  have la := least_at hlt hen
  have ne := segN_ne hlt hen
  have hle : ∀ j, w.b ≤ j → j < w.e → vl ns (w.b + pl (seg ns (w.b : Int) (w.e : Int))) ≤ vl ns j := fun j j1 j2 => by
    rw [la]; exact (minL_spec ne).2 _ ((mem_segN hen).mpr ⟨j, j1, j2, rfl⟩)
  refine ⟨⟨by omega, by omega, hen, fun j j1 j2 => ?_, ?_, fun j j1 j2 => hle j (by omega) j2, ?_⟩, by omega⟩
  · have h1 := hle j j1 (by omega)
    rcases Int.lt_or_le (vl ns (w.b + pl (seg ns (w.b : Int) (w.e : Int)))) (vl ns j) with z | z
    · exact z
    · exfalso
      have ej : vl ns j = minL (seg ns (w.b : Int) (w.e : Int)) := by rw [← la]; omega
      have hj' : (seg ns (w.b : Int) (w.e : Int))[j - w.b]? = some (minL (seg ns (w.b : Int) (w.e : Int))) := by
        rw [seg_get (by omega) (by omega), show (w.b : Int).toNat + (j - w.b) = j by omega, ← ej]
        unfold vl
        rw [List.getD_eq_getElem?_getD, List.getElem?_eq_getElem (show j < ns.length by omega)]; rfl
      exact f3 (j - w.b) _ (by unfold pl at j2; omega) hj' rfl
  · rcases h.lo with z | z
    · exact .inl z
    · exact .inr (z _ (by omega) (by omega))
  · rcases h.hi with z | z
    · exact .inl z
    · exact .inr (z _ (by omega) (by omega))
theorem Pend.left {ns : List Int} {w : WI} {i : Nat} (h : Pend ns w) (r : IsReach ns i w.b w.e) : Pend ns ⟨w.b, i, some (i : Int)⟩ := by
  have h1 := r.bi; have h2 := r.ie; have h3 := r.en
  refine ⟨h1, by show i ≤ _; omega, ?_, ?_, .inr fun k k1 k2 => r.bg k k1 k2⟩
  · show some (i : Int) = par ns w.b i
    unfold par
    by_cases hb : 0 < w.b
    · rw [if_pos hb, if_pos (show i < ns.length by omega)]
      have : vl ns (w.b - 1) ≤ vl ns i := by
        rcases r.b0 with z | z
        · omega
        · exact z
      rw [if_neg (by omega)]
    · rw [if_neg hb, if_pos (show i < ns.length by omega)]
  · rcases h.lo with z | z
    · exact .inl z
    · exact .inr fun k k1 k2 => z k k1 (by have k2' : k < i := k2; omega)
theorem Pend.right {ns : List Int} {w : WI} {i : Nat} (h : Pend ns w) (r : IsReach ns i w.b w.e) : Pend ns ⟨i + 1, w.e, some (i : Int)⟩ := by
  have h1 := r.bi; have h2 := r.ie; have h3 := r.en
  refine ⟨h2, h3, ?_, .inr fun k k1 k2 => ?_, ?_⟩
  · show some (i : Int) = par ns (i + 1) w.e
    unfold par
    rw [if_pos (Nat.succ_pos i), Nat.add_sub_cancel]
    by_cases he : w.e < ns.length
    · rw [if_pos he]
      have : vl ns w.e < vl ns i := by
        rcases r.e0 with z | z
        · omega
        · exact z
      rw [if_pos this]
      congr 1; omega
    · rw [if_neg he]
      congr 1; omega
  · have k1' : i + 1 ≤ k := k1
    have k2' : k < w.e := k2
    show vl ns (i + 1 - 1) ≤ vl ns k
    rw [Nat.add_sub_cancel]
    exact r.eg k (by omega) k2'
  · rcases h.hi with z | z
    · exact .inl z
    · exact .inr fun k k1 k2 => z k (by have k1' : i + 1 ≤ k := k1; omega) k2
/-- each place has what is above it, or waits -/
def Cover (ns : List Int) (os : List (Option Int)) (ws : List WI) : Prop := ∀ i, i < ns.length → (∃ b e : Nat, IsReach ns i b e ∧ os[i]? = some (par ns b e)) ∨ ∃ w ∈ ws, w.b ≤ i ∧ i < w.e
section
variable {P : Program} {w : World} {K : PySem.W.Frag} {mg : Str → Option Value} {base : Heap}
def x_law_tree : { t : Stmt // top 8 = t } := ⟨_, by conv => { lhs; whnf }⟩
abbrev s_law_tree : Stmt := x_law_tree.1
theorem sc_law_tree : FnScope ["row", "found", "waiting", "begin", "end", "above", "place"] ["row"] (defScope s_law_tree) := ⟨rfl, rfl, rfl, by decide +kernel, rfl, by decide +kernel, by decide +kernel⟩
theorem fn_law_tree (B : Bl mg bls) (D : DefAt K mg "_law_tree" s_law_tree ["row"]) : Fn P w K mg base 1 "_law_tree" ["row"] (spTree K) := by
  refine D.fn sc_law_tree (fun vs H Q E h => ?_) (fun f cdv A outer s H vs Q E hr h => ?_)
  · obtain ⟨a, ns, rfl, _⟩ := h; rfl
  · obtain ⟨a, ns, rfl, hs, hl, q⟩ := h
    refine' ⟨_, ?tm, ?rd⟩
    (case tm =>
      (conv => { arg 2; whnf })
      refine' pss_cons ?s0 ?r0
      (case s0 =>
        exact (ps_set (i := 1) sc_law_tree.nd (by rfl) (by first | exact Or.inl rfl | exact Or.inr rfl) (pe_op op_rep (pe_lst (pa_cons pe_non pa_nil)) (pe_callB call_len_seq (by rfl) (B "len" (by decide +kernel)) (by decide +kernel) (pa_cons (pv 0) pa_nil)))))
      (case r0 =>
        refine' pss_cons ?s0x ?r0x
        (case s0x =>
          exact (ps_set (i := 2) sc_law_tree.nd (by rfl) (by first | exact Or.inl rfl | exact Or.inr rfl) (pe_lst (pa_cons (pe_tup (pa_cons pe_int (pa_cons (pe_callB call_len_seq (by rfl) (B "len" (by decide +kernel)) (by decide +kernel) (pa_cons (pv 0) pa_nil)) (pa_cons pe_non pa_nil)))) pa_nil))))
        (case r0x =>
          refine' pss_cons ?s0xx ?r0xx
          (case s0xx =>
            refine' ps_while PassesOwn.never ?c0xx ?d0xx
            (case c0xx => exact (pt_cmpR (op_neD hr.units) (pv 2) (pe_lst pa_nil) (nomark _)))
            (case d0xx =>
              refine' pss_cons ?s0xxw ?r0xxw
              (case s0xxw =>
                exact (ps_asg (pe_bm0 PySem.F.plainAttrs_list PySem.F.slot_list_pop PySem.F.type_list_pop mt_pop (pv 2)) (pg_tup (by rfl) (pgs_cons (pg_name (i := 3) sc_law_tree.nd (by rfl) (by first | exact Or.inl rfl | exact Or.inr rfl)) (pgs_cons (pg_name (i := 4) sc_law_tree.nd (by rfl) (by first | exact Or.inl rfl | exact Or.inr rfl)) (pgs_cons (pg_name (i := 5) sc_law_tree.nd (by rfl) (by first | exact Or.inl rfl | exact Or.inr rfl)) pgs_nil))))))
              (case r0xxw =>
                refine' pss_one ?s0xxwx
                (case s0xxwx =>
                  refine' ps_if ?c0xxwx ?a0xxwx ?b0xxwx
                  (case c0xxwx => exact (pt_cmpR op_lt (pv 3) (pv 4) (nomark _)))
                  (case a0xxwx =>
                    refine' pss_cons ?s0xxwxi ?r0xxwxi
                    (case s0xxwxi =>
                      exact (ps_set (i := 6) sc_law_tree.nd (by rfl) (by first | exact Or.inl rfl | exact Or.inr rfl) (pe_op op_add (pv 3) (pe_bm PySem.F.plainAttrs_list PySem.F.slot_list_index PySem.F.type_list_index mt_index (pe_slice sl_list (pv 0) (po_some (pv 3)) (po_some (pv 4))) (pa_cons (pe_callB (cr_min rfl) (by rfl) (B "min" (by decide +kernel)) (by decide +kernel) (pa_cons (pe_slice sl_list (pv 0) (po_some (pv 3)) (po_some (pv 4))) pa_nil)) pa_nil)))))
                    (case r0xxwxi =>
                      refine' pss_cons ?s0xxwxix ?r0xxwxix
                      (case s0xxwxix =>
                        exact (ps_asg (pv 5) (pg_sub (pv 1) (pv 6) set_list)))
                      (case r0xxwxix =>
                        refine' pss_one ?s0xxwxixx
                        (case s0xxwxixx =>
                          exact (ps_set (i := 2) sc_law_tree.nd (by rfl) (by first | exact Or.inl rfl | exact Or.inr rfl) (pe_op op_cat (pv 2) (pe_lst (pa_cons (pe_tup (pa_cons (pv 3) (pa_cons (pv 6) (pa_cons (pv 6) pa_nil)))) (pa_cons (pe_tup (pa_cons (pe_op op_add (pv 6) pe_int) (pa_cons (pv 4) (pa_cons (pv 6) pa_nil)))) pa_nil)))))))))
                  (case b0xxwx =>
                    exact pss_nil)))))
          (case r0xx =>
            refine' pss_one ?s0xxx
            (case s0xxx =>
              exact (ps_ret (pv 1)))))))
    refine ⟨(by show 1 ≤ sizeLine; decide), fun p1 hp1 => ?_⟩
    have s1 := Same.new (o := .lst [.non]) hp1
    refine ⟨_, rfl, a, _, rfl, .inl (s1.seq hs), p1, _, [.non], rfl, rfl, upd_same, (by omega), (by rw [List.length_map]; omega), ?_, fun F hF => ?_⟩
    · exact line1000 (by show 1 * (((ns.map V.int).length : Nat) : Int).toNat ≤ 1000; rw [List.length_map]; omega)
    have eF : (List.replicate (((ns.map V.int).length : Nat) : Int).toNat ([.non] : List V)).flatten = (List.replicate ns.length (none : Option Int)).map oV := by
      rw [List.length_map, Int.toNat_natCast]; simp [oV]
    rw [eF]
    have s2 := s1.trans (Same.new (o := .lst ((List.replicate ns.length (none : Option Int)).map oV)) hF)
    have cF : upd (upd H p1 (.lst [.non])) F (.lst ((List.replicate ns.length (none : Option Int)).map oV)) F = some (.lst ((List.replicate ns.length (none : Option Int)).map oV)) := upd_same
    have fF : H F = none := s1.free hF
    generalize upd (upd H p1 (.lst [.non])) F (.lst ((List.replicate ns.length (none : Option Int)).map oV)) = H2 at s2 cF ⊢
    dsimp only [gName]
    refine ⟨_, rfl, a, _, rfl, .inl (s2.seq hs), (by show 3 ≤ sizeLine; decide), fun t0 ht0 => ?_⟩
    have s3 := Same.new (o := .tup [.int 0, .int ((ns.map V.int).length : Nat), .non]) ht0
    have ct0 : upd H2 t0 (.tup [.int 0, .int ((ns.map V.int).length : Nat), .non]) t0 = some (.tup [.int 0, .int ((ns.map V.int).length : Nat), .non]) := upd_same
    generalize upd H2 t0 (.tup [.int 0, .int ((ns.map V.int).length : Nat), .non]) = H3 at s3 ct0 ⊢
    refine ⟨(by show 1 ≤ sizeLine; decide), fun Wd hWd => ?_⟩
    have s4 := Same.new (o := .lst [.ref t0]) hWd
    have cW : upd H3 Wd (.lst [.ref t0]) Wd = some (.lst ([t0].map V.ref)) := upd_same
    have ct4 := s4 _ _ ct0
    generalize upd H3 Wd (.lst [.ref t0]) = H4 at s4 cW ct4 ⊢
    rw [List.length_map] at ct4
    have nWF : Wd ≠ F := fun z => by rw [z, s3 _ _ cF] at hWd; cases hWd
    have fWd : H Wd = none := (s2.trans s3).free hWd
    dsimp only [gName]
    have w0 : WAt H4 [t0] [⟨0, ns.length, none⟩] := WAt.one ct4
    have pend0 : Pend ns ⟨0, ns.length, none⟩ := ⟨Nat.zero_le _, Nat.le_refl _, by show none = par ns 0 ns.length; unfold par; rw [if_neg (Nat.lt_irrefl 0), if_neg (Nat.lt_irrefl _)], .inl rfl, .inl rfl⟩
    refine seqJ (fun σ' H' => ∃ (os : List (Option Int)) (v2 v3 v4 v5 v6 : Option V), σ' = [some (.ref a), some (.ref F), v2, v3, v4, v5, v6] ∧ H' F = some (.lst (os.map oV)) ∧ os.length = ns.length ∧ Cover ns os [] ∧ Same H H') (fun fin => ?_) ?_
    · refine ⟨fun m σ' H' => ∃ (os : List (Option Int)) (Wd : Addr) (ts : List Addr) (ws : List WI) (v3 v4 v5 v6 : Option V), m = msr ws ∧ msr ws ≤ 2 * ns.length + 1 ∧ σ' = [some (.ref a), some (.ref F), some (.ref Wd), v3, v4, v5, v6] ∧ H' F = some (.lst (os.map oV)) ∧ os.length = ns.length ∧ Wd ≠ F ∧ H Wd = none ∧ H' Wd = some (.lst (ts.map V.ref)) ∧ WAt H' ts ws ∧ (∀ w ∈ ws, Pend ns w) ∧ Cover ns os ws ∧ Same H H',
        ⟨_, _, Wd, [t0], [⟨0, ns.length, none⟩], _, _, _, _, rfl, by simp [msr], rfl, (s3.trans s4) _ _ cF, List.length_replicate, nWF, fWd, cW, w0, (fun w hw => by rw [List.mem_singleton.mp hw]; exact pend0), (fun i hi => .inr ⟨_, List.mem_singleton.mpr rfl, Nat.zero_le _, hi⟩), s2.trans (s3.trans s4)⟩, ?_⟩
      clear w0 ct4 cW nWF fWd hWd
      rintro m σ' H5 ⟨os, Wd, ts, ws, v3, v4, v5, v6, rfl, hms, rfl, cF5, ol, nWF, fWd, cW, wat, pend, cov, k5⟩
      refine ⟨_, rfl, (by show 0 ≤ sizeLine; decide), fun q1 hq1 => ?_⟩
      have s6 := Same.new (o := .lst []) hq1
      refine ⟨.list (ws.map wiD), .list [], .lst (SqL.of (s6 _ _ cW)) (dpW (wat.same s6)), .lst (SqL.of upd_same) .nil, shapedW ws, rfl, _, rfl, ?_⟩
      rw [eqvW]
      have cF6 := s6 _ _ cF5
      have cW6 := s6 _ _ cW
      have wat6 := wat.same s6
      have k6 := k5.trans s6
      generalize upd H5 q1 (.lst []) = H6 at s6 cF6 cW6 wat6 k6 ⊢
      rcases List.eq_nil_or_concat ws with rfl | ⟨us, wi, rfl⟩
      · exact fin _ _ ⟨os, _, _, _, _, _, rfl, cF6, ol, cov, k6⟩
      rw [List.concat_eq_append] at *
      rcases List.eq_nil_or_concat ts with rfl | ⟨ts', t, rfl⟩
      · have := wat6.1; rw [List.length_append] at this; simp at this
      rw [List.concat_eq_append] at *
      have eE : (us ++ [wi]).isEmpty = false := by simp
      rw [eE]
      obtain ⟨watF, ct⟩ := wat6.front
      refine ⟨_, fun σ' H' y => y, ?_⟩
      have hp := pend wi (by simp)
      have h1 := hp.be; have h2 := hp.en
      have eD : (List.map V.ref (ts' ++ [t])).dropLast = ts'.map V.ref := by rw [List.map_append]; simp
      refine ⟨_, rfl, .inl ⟨rfl, _, SqL.of cW6⟩, Wd, _, .ref t, rfl, rfl, cW6, by simp, ?_⟩
      rw [eD]
      have ct7 : upd H6 Wd (.lst (ts'.map V.ref)) t = some (.tup (wiL wi)) := by
        rw [upd_ne fun z => by rw [z, cW6] at ct; cases ct]; exact ct
      have watF7 := watF.at (ys := ts'.map V.ref) cW6
      have cF7 : upd H6 Wd (.lst (ts'.map V.ref)) F = some (.lst (os.map oV)) := by rw [upd_ne nWF.symm]; exact cF6
      have cW7 : upd H6 Wd (.lst (ts'.map V.ref)) Wd = some (.lst (ts'.map V.ref)) := upd_same
      have k7 := k6.at (o := .lst (ts'.map V.ref)) fWd
      generalize upd H6 Wd (.lst (ts'.map V.ref)) = H7 at ct7 watF7 cF7 cW7 k7 ⊢
      refine ⟨t, _, rfl, SqT.of ct7, rfl, _, _, rfl, _, _, rfl, _, _, rfl, rfl, ?_⟩
      dsimp only [gName]
      have hm1 : msr (us ++ [wi]) = msr us + (2 * (wi.e - wi.b) + 1) := by rw [msr_app]; simp [msr]
      refine ⟨_, rfl, _, rfl, _, _, rfl, rfl, _, rfl, ?_⟩
      refine ite2 (fun z => ?_) (fun z => ?_)
      · have z' : (wi.b : Int) < (wi.e : Int) := of_decide_eq_true z
        obtain ⟨hre, hie⟩ := hp.first (by omega)
        have st : IsSt ns.length (wi.b : Int) (wi.e : Int) := ⟨by omega, by omega, by omega⟩
        have hs7 := k7.seq hs
        refine ⟨_, rfl, _, rfl, _, rfl, _, rfl, _, rfl, _, rfl, a, _, rfl, hs7, fun p2 hp2 => ?_⟩
        rw [cut_ints, seg_cut st]
        have s8 := Same.new (o := .lst ((seg ns (wi.b : Int) (wi.e : Int)).map V.int)) hp2
        have cp2 : upd H7 p2 (.lst ((seg ns (wi.b : Int) (wi.e : Int)).map V.int)) p2 = some (.lst ((seg ns (wi.b : Int) (wi.e : Int)).map V.int)) := upd_same
        generalize upd H7 p2 (.lst ((seg ns (wi.b : Int) (wi.e : Int)).map V.int)) = H8 at s8 cp2 ⊢
        refine ⟨.inl ⟨rfl, _, SqL.of cp2⟩, _, rfl, _, rfl, _, rfl, _, rfl, _, rfl, a, _, rfl, s8.seq hs7, fun p3 hp3 => ?_⟩
        rw [cut_ints, seg_cut st]
        have s9 := Same.new (o := .lst ((seg ns (wi.b : Int) (wi.e : Int)).map V.int)) hp3
        have cp3 : upd H8 p3 (.lst ((seg ns (wi.b : Int) (wi.e : Int)).map V.int)) p3 = some (.lst ((seg ns (wi.b : Int) (wi.e : Int)).map V.int)) := upd_same
        generalize upd H8 p3 (.lst ((seg ns (wi.b : Int) (wi.e : Int)).map V.int)) = H9 at s9 cp3 ⊢
        refine ⟨p3, _, rfl, SqL.of cp3, List.length_pos_iff.mpr (seg_ne st), fun mn' h1' h2' => ?_⟩
        rw [← minL_uniq h1' h2']
        dsimp only [tNil]
        refine rIndex_min (SqL.of (s9 _ _ cp2)) (seg_ne st) ?_
        refine ⟨_, _, rfl, rfl, ?_⟩
        obtain ⟨i, ei⟩ : ∃ i : Nat, wi.b + pl (seg ns (wi.b : Int) (wi.e : Int)) = i := ⟨_, rfl⟩
        rw [ei] at hre hie
        have epl : (wi.b : Int) + ((pl (seg ns (wi.b : Int) (wi.e : Int)) : Nat) : Int) = (i : Int) := by omega
        dsimp only [gName]
        rw [epl]
        have s79 := s8.trans s9
        have cF9 := s79 _ _ cF7
        have cW9 := s79 _ _ cW7
        have wat9 := watF7.same s79
        have k9 := k7.trans s79
        clear s8 s9 cp2 cp3
        have hbi := hre.bi
        refine ⟨_, rfl, _, rfl, _, rfl, F, _, _, i, rfl, rfl, cF9, ?_, ?_⟩
        · rw [List.length_map, ol]; exact (ix_nat (by omega) (by omega)).trans (by simp)
        have cF10 : upd H9 F (.lst ((os.map oV).set i (oV wi.o))) F = some (.lst ((os.set i wi.o).map oV)) := by rw [upd_same, List.map_set]
        have cW10 : upd H9 F (.lst ((os.map oV).set i (oV wi.o))) Wd = some (.lst (ts'.map V.ref)) := by rw [upd_ne nWF]; exact cW9
        have wat10 := wat9.at (ys := (os.map oV).set i (oV wi.o)) cF9
        have k10 := k9.at (o := .lst ((os.map oV).set i (oV wi.o))) fF
        generalize upd H9 F (.lst ((os.map oV).set i (oV wi.o))) = H10 at cF10 cW10 wat10 k10 ⊢
        refine ⟨_, rfl, _, rfl, _, rfl, _, rfl, (by show 3 ≤ sizeLine; decide), fun t1 ht1 => ?_⟩
        have s11 := Same.new (o := .tup [.int (wi.b : Int), .int (i : Int), .int (i : Int)]) ht1
        have ct1 : upd H10 t1 (.tup [.int (wi.b : Int), .int (i : Int), .int (i : Int)]) t1 = some (.tup (wiL ⟨wi.b, i, some (i : Int)⟩)) := upd_same
        generalize upd H10 t1 (.tup [.int (wi.b : Int), .int (i : Int), .int (i : Int)]) = H11 at s11 ct1 ⊢
        refine ⟨_, rfl, _, _, rfl, rfl, _, rfl, _, rfl, (by show 3 ≤ sizeLine; decide), fun t2 ht2 => ?_⟩
        have s12 := Same.new (o := .tup [.int ((i : Int) + 1), .int (wi.e : Int), .int (i : Int)]) ht2
        have ct2 : upd H11 t2 (.tup [.int ((i : Int) + 1), .int (wi.e : Int), .int (i : Int)]) t2 = some (.tup (wiL ⟨i + 1, wi.e, some (i : Int)⟩)) := upd_same
        generalize upd H11 t2 (.tup [.int ((i : Int) + 1), .int (wi.e : Int), .int (i : Int)]) = H12 at s12 ct2 ⊢
        refine ⟨(by show 2 ≤ sizeLine; decide), fun l2 hl2 => ?_⟩
        have s13 := Same.new (o := .lst [.ref t1, .ref t2]) hl2
        have cl2 : upd H12 l2 (.lst [.ref t1, .ref t2]) l2 = some (.lst ([t1, t2].map V.ref)) := upd_same
        generalize upd H12 l2 (.lst [.ref t1, .ref t2]) = H13 at s13 cl2 ⊢
        have s1013 := s11.trans (s12.trans s13)
        have hml := msr_len us
        refine ⟨Wd, l2, _, _, rfl, rfl, s1013 _ _ cW10, cl2, ?_, fun W2 hW2 => ?_⟩
        · rw [List.length_map, List.length_map]
          have := wat10.1
          exact line1000 (by show ts'.length + 2 ≤ 1000; omega)
        rw [← List.map_append]
        have s14 := Same.new (o := .lst ((ts' ++ [t1, t2]).map V.ref)) hW2
        have cW2 : upd H13 W2 (.lst ((ts' ++ [t1, t2]).map V.ref)) W2 = some (.lst ((ts' ++ [t1, t2]).map V.ref)) := upd_same
        generalize upd H13 W2 (.lst ((ts' ++ [t1, t2]).map V.ref)) = H14 at s14 cW2 ⊢
        have s1014 := s1013.trans s14
        have nW2F : W2 ≠ F := fun z => by rw [z, s1013 _ _ cF10] at hW2; cases hW2
        have hm2 : msr (us ++ [⟨wi.b, i, some (i : Int)⟩, ⟨i + 1, wi.e, some (i : Int)⟩]) = msr us + (2 * (i - wi.b) + 1) + (2 * (wi.e - (i + 1)) + 1) := by rw [msr_app]; simp [msr]; omega
        refine ⟨msr (us ++ [⟨wi.b, i, some (i : Int)⟩, ⟨i + 1, wi.e, some (i : Int)⟩]), by omega, os.set i wi.o, W2, ts' ++ [t1, t2], us ++ [⟨wi.b, i, some (i : Int)⟩, ⟨i + 1, wi.e, some (i : Int)⟩], _, _, _, _, rfl, by omega, rfl, s1014 _ _ cF10, by rw [List.length_set]; exact ol, nW2F, (k10.trans s1013).free hW2, cW2, ?_, ?_, ?_, k10.trans s1014⟩
        · exact (wat10.same s1014).app (WAt.app (ts := [t1]) (xs := [⟨wi.b, i, some (i : Int)⟩]) (WAt.one ((s12.trans (s13.trans s14)) _ _ ct1)) (WAt.one ((s13.trans s14) _ _ ct2)))
        · intro w' hw'
          rcases List.mem_append.mp hw' with u | u
          · exact pend w' (List.mem_append_left _ u)
          · have u' : w' = ⟨wi.b, i, some (i : Int)⟩ ∨ w' = ⟨i + 1, wi.e, some (i : Int)⟩ := by simpa using u
            rcases u' with rfl | rfl
            · exact hp.left hre
            · exact hp.right hre
        · intro j hj
          by_cases hji : j = i
          · subst hji
            refine .inl ⟨wi.b, wi.e, hre, ?_⟩
            rw [List.getElem?_set_self (by omega), hp.o]
          · rcases cov j hj with ⟨b', e', r', x'⟩ | ⟨w', hw', hb', he'⟩
            · exact .inl ⟨b', e', r', by rw [List.getElem?_set_ne (Ne.symm hji)]; exact x'⟩
            · right
              rcases List.mem_append.mp hw' with u | u
              · exact ⟨w', List.mem_append_left _ u, hb', he'⟩
              · have u' : w' = wi := by simpa using u
                subst u'
                rcases Nat.lt_or_ge j i with y | y
                · exact ⟨⟨w'.b, i, some (i : Int)⟩, by simp, hb', y⟩
                · exact ⟨⟨i + 1, w'.e, some (i : Int)⟩, by simp, by show i + 1 ≤ j; omega, he'⟩
      · have z' : ¬ (wi.b : Int) < (wi.e : Int) := fun y => z (decide_eq_true y)
        refine ⟨msr us, by omega, os, Wd, ts', us, _, _, _, _, rfl, by omega, rfl, cF7, ol, nWF, fWd, cW7, watF7, (fun w' hw' => pend w' (List.mem_append_left _ hw')), ?_, k7⟩
        intro j hj
        rcases cov j hj with y | ⟨w', hw', hb', he'⟩
        · exact .inl y
        · right
          rcases List.mem_append.mp hw' with u | u
          · exact ⟨w', u, hb', he'⟩
          · have u' : w' = wi := by simpa using u
            subst u'
            omega
    rintro _ H5 ⟨os, v2, v3, v4, v5, v6, rfl, cF5, ol, cov, k5⟩
    refine ⟨_, rfl, q F H5 os k5 fF cF5 ⟨ol, fun i hi => ?_⟩⟩
    rcases cov i hi with z | ⟨_, z, _⟩
    · exact z
    · cases z
end

end Law

set_option Elab.async false
set_option linter.all false
set_option maxRecDepth 100000
set_option maxHeartbeats 4000000
namespace Law
open PySem L2
def spLaw (K : PySem.W.Frag) : Sp := fun vs H Q _ => ∃ (a : Addr) (ns : List Int), vs = [.ref a] ∧ SqL K H a (ns.map V.int) ∧ ns.length ≤ 63 ∧ ∀ H', Q (.bl true) H'
/-- the pairs asked -/
structure Prs (H : Hp) (p a t D : Addr) (ns : List Int) (os : List (Option Int)) (b : Nat) : Prop where
  dr : Draws H p
  ca : H a = some (.lst (ns.map V.int))
  ct : H t = some (.lst (os.map oV))
  cD : ∃ (ts : List Addr) (ps : List (Int × Int)), H D = some (.lst (ts.map V.ref)) ∧ PrAt H ts ps ∧ ps.length ≤ b ∧ ∀ q ∈ ps, 0 ≤ q.1 ∧ q.1 < (ns.length : Int) ∧ 0 ≤ q.2 ∧ q.2 < (ns.length : Int)
theorem Prs.same {H H' : Hp} {p a t D : Addr} {ns : List Int} {os : List (Option Int)} {b : Nat} (h : Prs H p a t D ns os b) (s : Same H H') : Prs H' p a t D ns os b := by
  obtain ⟨ts, ps, c, pr, l, o⟩ := h.cD
  exact ⟨h.dr.same s, s _ _ h.ca, s _ _ h.ct, ts, ps, s _ _ c, pr.same s, l, o⟩
theorem Prs.but {H H' : Hp} {p a t D : Addr} {ns : List Int} {os : List (Option Int)} {b : Nat} (h : Prs H p a t D ns os b) (n1 : a ≠ p) (n2 : t ≠ p) (n3 : D ≠ p) (d : Draws H' p) (s : But p H H') : Prs H' p a t D ns os b := by
  obtain ⟨ts, ps, c, pr, l, o⟩ := h.cD
  obtain ⟨ds, cds, _⟩ := id h.dr
  exact ⟨d, s _ _ n1 h.ca, s _ _ n2 h.ct, ts, ps, s _ _ n3 c, pr.butD s cds, l, o⟩
section
variable {P : Program} {w : World} {K : PySem.W.Frag} {mg : Str → Option Value} {base : Heap}
def xlaw : { t : Stmt // top 11 = t } := ⟨_, by conv => { lhs; whnf }⟩
abbrev slaw : Stmt := xlaw.1
theorem sclaw : FnScope ["script", "draws", "many", "row", "tree", "size", "pairs", "k", "one", "other"] ["script"] (defScope slaw) := ⟨rfl, rfl, rfl, by decide +kernel, rfl, by decide +kernel, by decide +kernel⟩
theorem ok_law {f : Addr} {fd : FuncData} (B : Bl mg bls) (Fl : Fun K "law" "law" slaw f fd) (F_law_draws : Fn P w K mg base 1 "_law_draws" ["script"] (spDraws K)) (F_law_take : Fn P w K mg base 1 "_law_take" ["draws", "many"] spTake) (F_law_row : Fn P w K mg base 2 "_law_row" ["draws", "most"] spRow37) (F_law_tree : Fn P w K mg base 1 "_law_tree" ["row"] (spTree K)) (F_law_pair_right : Fn P w K mg base 3 "_law_pair_right" ["row", "tree", "one", "other"] (spPair K)) : FnOk P w K mg base CX0 4 f fd ["script"] (spLaw K) := by
  refine Fl.ok sclaw (fun vs H Q E h => ?_) (fun cdv A outer s H vs Q E hr h => ?_)
  · obtain ⟨a, ns, rfl, _⟩ := h; rfl
  · obtain ⟨sc, ss, rfl, hs, hl, q⟩ := h
    refine' ⟨_, ?tm, ?rd⟩
    (case tm =>
      (conv => { arg 2; whnf })
      refine' pss_cons ?s0 ?r0
      (case s0 =>
        exact (ps_set (i := 1) sclaw.nd (by rfl) (by first | exact Or.inl rfl | exact Or.inr rfl) (pe_fn F_law_draws hr (by rfl) (pa_cons (pv 0) pa_nil))))
      (case r0 =>
        refine' pss_cons ?s0x ?r0x
        (case s0x =>
          exact (ps_set (i := 2) sclaw.nd (by rfl) (by first | exact Or.inl rfl | exact Or.inr rfl) pe_int))
        (case r0x =>
          refine' pss_cons ?s0xx ?r0xx
          (case s0xx =>
            refine' ps_while PassesOwn.never ?c0xx ?d0xx
            (case c0xx => exact (PW.pt (pw_or (pt_cmpR op_lt (pv 2) pe_int (nomark _)) (pw_or1 (PW.pt (pw_and (pt_cmpR (op_neLI hr.units) (pv 1) (pe_lst pa_nil) (nomark _)) (pw_and1 (pt_cmpR op_lt (pv 2) pe_int (nomark _)))))))))
            (case d0xx =>
              refine' pss_cons ?s0xxw ?r0xxw
              (case s0xxw =>
                exact (ps_set (i := 3) sclaw.nd (by rfl) (by first | exact Or.inl rfl | exact Or.inr rfl) (pe_fn F_law_row hr (by rfl) (pa_cons (pv 1) (pa_cons pe_int pa_nil)))))
              (case r0xxw =>
                refine' pss_cons ?s0xxwx ?r0xxwx
                (case s0xxwx =>
                  refine' ps_if ?c0xxwx ?a0xxwx ?b0xxwx
                  (case c0xxwx => exact (pt_cmpR (op_eqLI hr.units) (pv 3) (pe_lst pa_nil) (nomark _)))
                  (case a0xxwx =>
                    refine' pss_one ?s0xxwxi
                    (case s0xxwxi =>
                      exact (ps_set (i := 3) sclaw.nd (by rfl) (by first | exact Or.inl rfl | exact Or.inr rfl) (pe_lst (pa_cons (pe_fn F_law_take hr (by rfl) (pa_cons (pv 1) (pa_cons pe_int pa_nil))) pa_nil)))))
                  (case b0xxwx =>
                    exact pss_nil))
                (case r0xxwx =>
                  refine' pss_cons ?s0xxwxx ?r0xxwxx
                  (case s0xxwxx =>
                    exact (ps_set (i := 4) sclaw.nd (by rfl) (by first | exact Or.inl rfl | exact Or.inr rfl) (pe_fn F_law_tree hr (by rfl) (pa_cons (pv 3) pa_nil))))
                  (case r0xxwxx =>
                    refine' pss_cons ?s0xxwxxx ?r0xxwxxx
                    (case s0xxwxxx =>
                      exact (ps_set (i := 5) sclaw.nd (by rfl) (by first | exact Or.inl rfl | exact Or.inr rfl) (pe_callB call_len_seq (by rfl) (B "len" (by decide +kernel)) (by decide +kernel) (pa_cons (pv 3) pa_nil))))
                    (case r0xxwxxx =>
                      refine' pss_cons ?s0xxwxxxx ?r0xxwxxxx
                      (case s0xxwxxxx =>
                        exact (ps_set (i := 6) sclaw.nd (by rfl) (by first | exact Or.inl rfl | exact Or.inr rfl) (pe_lst (pa_cons (pe_tup (pa_cons pe_int (pa_cons (pe_op op_sub (pv 5) pe_int) pa_nil))) (pa_cons (pe_tup (pa_cons (pe_op op_sub (pv 5) pe_int) (pa_cons pe_int pa_nil))) (pa_cons (pe_tup (pa_cons pe_int (pa_cons pe_int pa_nil))) (pa_cons (pe_tup (pa_cons (pe_op op_sub (pv 5) pe_int) (pa_cons (pe_op op_sub (pv 5) pe_int) pa_nil))) pa_nil)))))))
                      (case r0xxwxxxx =>
                        refine' pss_cons ?s0xxwxxxxx ?r0xxwxxxxx
                        (case s0xxwxxxxx =>
                          refine' ps_for PassesOwn.never (by rfl) ?i0xxwxxxxx ?g0xxwxxxxx ?d0xxwxxxxx
                          (case i0xxwxxxxx => exact (pi_range1 (by rfl) (B "range" (by decide +kernel)) (pa_cons pe_int pa_nil)))
                          (case g0xxwxxxxx => exact (pg_name (i := 7) sclaw.nd (by rfl) (by first | exact Or.inl rfl | exact Or.inr rfl)))
                          (case d0xxwxxxxx =>
                            refine' pss_one ?s0xxwxxxxxf
                            (case s0xxwxxxxxf =>
                              exact (ps_expr (pe_bm PySem.F.plainAttrs_list PySem.F.slot_list_append PySem.F.type_list_append mt_append (pv 6) (pa_cons (pe_tup (pa_cons (pe_op op_mod (pe_fn F_law_take hr (by rfl) (pa_cons (pv 1) (pa_cons pe_int pa_nil))) (pv 5)) (pa_cons (pe_op op_mod (pe_fn F_law_take hr (by rfl) (pa_cons (pv 1) (pa_cons pe_int pa_nil))) (pv 5)) pa_nil))) pa_nil))))))
                        (case r0xxwxxxxx =>
                          refine' pss_cons ?s0xxwxxxxxx ?r0xxwxxxxxx
                          (case s0xxwxxxxxx =>
                            refine' ps_if ?c0xxwxxxxxx ?a0xxwxxxxxx ?b0xxwxxxxxx
                            (case c0xxwxxxxxx => exact (pt_cmpR op_lt (pv 5) pe_int (nomark _)))
                            (case a0xxwxxxxxx =>
                              refine' pss_one ?s0xxwxxxxxxi
                              (case s0xxwxxxxxxi =>
                                refine' ps_for PassesOwn.never (by rfl) ?i0xxwxxxxxxi ?g0xxwxxxxxxi ?d0xxwxxxxxxi
                                (case i0xxwxxxxxxi => exact (pi_range1 (by rfl) (B "range" (by decide +kernel)) (pa_cons (pv 5) pa_nil)))
                                (case g0xxwxxxxxxi => exact (pg_name (i := 8) sclaw.nd (by rfl) (by first | exact Or.inl rfl | exact Or.inr rfl)))
                                (case d0xxwxxxxxxi =>
                                  refine' pss_one ?s0xxwxxxxxxif
                                  (case s0xxwxxxxxxif =>
                                    exact (ps_expr (pe_bm PySem.F.plainAttrs_list PySem.F.slot_list_extend PySem.F.type_list_extend mt_extend (pv 6) (pa_cons (pe_lc (own := [("other", 9)]) (g := (gName 9)) (by rfl) sclaw.nd (pi_range1 (by rfl) (B "range" (by decide +kernel)) (pa_cons (pv 5) pa_nil)) (blkOk_by (own := [("other", 9)]) (N := ["script", "draws", "many", "row", "tree", "size", "pairs", "k", "one", "other"]) (sc := defScope slaw) (by decide +kernel)) (fun _ _ _ _ _ => (pg_name (i := 9) sclaw.nd (by rfl) (by first | exact Or.inl rfl | exact Or.inr rfl))) (fun _ _ _ _ _ => pts_nil) (fun _ _ _ _ _ => (pe_tup (pa_cons (pv 8) (pa_cons (pv 9) pa_nil))))) pa_nil)))))))
                            (case b0xxwxxxxxx =>
                              exact pss_nil))
                          (case r0xxwxxxxxx =>
                            refine' pss_cons ?s0xxwxxxxxxx ?r0xxwxxxxxxx
                            (case s0xxwxxxxxxx =>
                              refine' ps_for PassesOwn.never (by rfl) ?i0xxwxxxxxxx ?g0xxwxxxxxxx ?d0xxwxxxxxxx
                              (case i0xxwxxxxxxx => exact (pi_list (pv 6)))
                              (case g0xxwxxxxxxx => exact (pg_tup (by rfl) (pgs_cons (pg_name (i := 8) sclaw.nd (by rfl) (by first | exact Or.inl rfl | exact Or.inr rfl)) (pgs_cons (pg_name (i := 9) sclaw.nd (by rfl) (by first | exact Or.inl rfl | exact Or.inr rfl)) pgs_nil))))
                              (case d0xxwxxxxxxx =>
                                refine' pss_one ?s0xxwxxxxxxxf
                                (case s0xxwxxxxxxxf =>
                                  refine' ps_if ?c0xxwxxxxxxxf ?a0xxwxxxxxxxf ?b0xxwxxxxxxxf
                                  (case c0xxwxxxxxxxf => exact (pt_not (pt_val (pe_fn F_law_pair_right hr (by rfl) (pa_cons (pv 3) (pa_cons (pv 4) (pa_cons (pv 8) (pa_cons (pv 9) pa_nil))))))))
                                  (case a0xxwxxxxxxxf =>
                                    refine' pss_one ?s0xxwxxxxxxxfi
                                    (case s0xxwxxxxxxxfi =>
                                      exact (ps_ret pe_bl)))
                                  (case b0xxwxxxxxxxf =>
                                    exact pss_nil))))
                            (case r0xxwxxxxxxx =>
                              refine' pss_one ?s0xxwxxxxxxxx
                              (case s0xxwxxxxxxxx =>
                                exact (ps_set (i := 2) sclaw.nd (by rfl) (by first | exact Or.inl rfl | exact Or.inr rfl) (pe_op op_add (pv 2) pe_int)))))))))))))
          (case r0xx =>
            refine' pss_one ?s0xxx
            (case s0xxx =>
              exact (ps_ret pe_bl))))))
    refine ⟨_, rfl, sc, ss, rfl, hs, hl, fun p H1 fp s1 hD1 => ?_⟩
    dsimp only [gName]
    refine seqJ (fun σ' H' => σ' = [some (.ref sc), some (.ref p), some (.int 0), none, none, none, none, none, none, none] ∧ H' = H1) (fun fin => fin _ _ ⟨rfl, rfl⟩) ?_
    rintro _ _ ⟨rfl, rfl⟩
    refine seqJ (fun σ' H' => True) (fun fin => ?_) (fun σ' H' _ => q H')
    refine ⟨fun mm σ' H' => ∃ (m : Int) (v3 v4 v5 v6 v7 v8 v9 : Option V), mm = (4 - m).toNat ∧ σ' = [some (.ref sc), some (.ref p), some (.int m), v3, v4, v5, v6, v7, v8, v9] ∧ 0 ≤ m ∧ m ≤ 4 ∧ Draws H' p, ⟨_, 0, _, _, _, _, _, _, _, rfl, rfl, by decide, by decide, hD1⟩, ?_⟩
    rintro mm σ' H4 ⟨m, v3, v4, v5, v6, v7, v8, v9, rfl, rfl, m0, m1, hD⟩
    refine testJ (fun b H' => Same H4 H' ∧ (b = true → m < 4)) (fun R fin2 => ?_) ?_
    · refine ⟨_, rfl, _, _, rfl, rfl, _, rfl, ?_⟩
      refine ite2 (fun z => fin2 _ _ ⟨Same.refl _, fun _ => by have : m < 1 := of_decide_eq_true z; omega⟩) (fun z => ?_)
      obtain ⟨ds, cds, _⟩ := id hD
      refine ⟨_, rfl, (by show 0 ≤ sizeLine; decide), fun q1 hq1 => ⟨p, q1, ds, [], rfl, rfl, SqL.of ((Same.new hq1) _ _ cds), SqL.of upd_same, _, rfl, ?_⟩⟩
      refine ite2 (fun _ => ?_) (fun _ => fin2 _ _ ⟨Same.new hq1, fun z => absurd z (by decide)⟩)
      exact ⟨_, rfl, _, _, rfl, rfl, _, rfl, fin2 _ _ ⟨Same.new hq1, fun z => of_decide_eq_true z⟩⟩
    rintro b H5 ⟨s5, hb⟩
    cases b with
    | false => exact q _
    | true =>
      have mlt := hb rfl
      refine ⟨_, fun σ' H' y => y, ?_⟩
      refine ⟨_, rfl, p, _, rfl, hD.same s5, by decide, by decide, fun a H6 ns fa na k6 hD6 ca al ab => ?_⟩
      dsimp only [gName]
      refine seqJ (fun σ' H' => ∃ (a : Addr) (ns : List Int), σ' = [some (.ref sc), some (.ref p), some (.int m), some (.ref a), v4, v5, v6, v7, v8, v9] ∧ a ≠ p ∧ Draws H' p ∧ H' a = some (.lst (ns.map V.int)) ∧ ns.length ≤ 300 ∧ 0 < ns.length) (fun fin3 => ?_) ?_
      · refine ⟨_, rfl, (by show 0 ≤ sizeLine; decide), fun q1 hq1 => ⟨a, q1, ns, [], rfl, rfl, SqL.of ((Same.new hq1) _ _ ca), SqL.of upd_same, _, rfl, ?_⟩⟩
        have hD7 := hD6.same (Same.new (o := .lst []) hq1)
        have ca7 := (Same.new (o := .lst []) hq1) _ _ ca
        refine ite2 (fun z => ?_) (fun z => ?_)
        · refine ⟨_, rfl, p, _, rfl, hD7, by decide, fun got H8 g0 g1 g2 hD8 b8 => ?_⟩
          refine ⟨(by show 1 ≤ sizeLine; decide), fun a2 ha2 => ?_⟩
          exact fin3 _ _ ⟨a2, [got], rfl, hD8.ne ha2, hD8.new ha2, upd_same, by simp, by simp⟩
        · refine fin3 _ _ ⟨a, ns, rfl, na, hD7, ca7, al, ?_⟩
          cases ns with
          | nil => exact absurd rfl z
          | cons _ _ => simp
      clear ca al ab na fa
      rintro _ H7 ⟨a, ns, rfl, na, hD7, ca, al, apos⟩
      refine ⟨_, rfl, a, ns, rfl, SqL.of ca, al, fun t H8 os s8 ft ct it => ?_⟩
      have hD8 := hD7.same s8
      have ca8 := s8 _ _ ca
      have nt : t ≠ p := hD7.ne ft
      dsimp only [gName]
      refine ⟨_, rfl, a, _, rfl, .inl (SqL.of ca8), ?_⟩
      rw [List.length_map]
      dsimp only [gName]
      refine ⟨_, rfl, _, _, rfl, rfl, (by show 2 ≤ sizeLine; decide), fun t1 ht1 => ?_⟩
      have r1 := Same.new (o := .tup [.int 0, .int ((ns.length : Int) - 1)]) ht1
      have c1 : upd H8 t1 (.tup [.int 0, .int ((ns.length : Int) - 1)]) t1 = some (.tup [.int 0, .int ((ns.length : Int) - 1)]) := upd_same
      generalize upd H8 t1 (.tup [.int 0, .int ((ns.length : Int) - 1)]) = H9 at r1 c1 ⊢
      refine ⟨_, rfl, _, _, rfl, rfl, (by show 2 ≤ sizeLine; decide), fun t2 ht2 => ?_⟩
      have r2 := Same.new (o := .tup [.int ((ns.length : Int) - 1), .int 0]) ht2
      have c2 : upd H9 t2 (.tup [.int ((ns.length : Int) - 1), .int 0]) t2 = some (.tup [.int ((ns.length : Int) - 1), .int 0]) := upd_same
      generalize upd H9 t2 (.tup [.int ((ns.length : Int) - 1), .int 0]) = H10 at r2 c2 ⊢
      refine ⟨(by show 2 ≤ sizeLine; decide), fun t3 ht3 => ?_⟩
      have r3 := Same.new (o := .tup [.int 0, .int 0]) ht3
      have c3 : upd H10 t3 (.tup [.int 0, .int 0]) t3 = some (.tup [.int 0, .int 0]) := upd_same
      generalize upd H10 t3 (.tup [.int 0, .int 0]) = H11 at r3 c3 ⊢
      refine ⟨_, rfl, _, _, rfl, rfl, _, rfl, _, _, rfl, rfl, (by show 2 ≤ sizeLine; decide), fun t4 ht4 => ?_⟩
      have r4 := Same.new (o := .tup [.int ((ns.length : Int) - 1), .int ((ns.length : Int) - 1)]) ht4
      have c4 : upd H11 t4 (.tup [.int ((ns.length : Int) - 1), .int ((ns.length : Int) - 1)]) t4 = some (.tup [.int ((ns.length : Int) - 1), .int ((ns.length : Int) - 1)]) := upd_same
      generalize upd H11 t4 (.tup [.int ((ns.length : Int) - 1), .int ((ns.length : Int) - 1)]) = H12 at r4 c4 ⊢
      refine ⟨(by show 4 ≤ sizeLine; decide), fun D hDn => ?_⟩
      have r5 := Same.new (o := .lst [.ref t1, .ref t2, .ref t3, .ref t4]) hDn
      have cD : upd H12 D (.lst [.ref t1, .ref t2, .ref t3, .ref t4]) D = some (.lst ([t1, t2, t3, t4].map V.ref)) := upd_same
      generalize upd H12 D (.lst [.ref t1, .ref t2, .ref t3, .ref t4]) = H13 at r5 cD ⊢
      have r0 := r1.trans (r2.trans (r3.trans (r4.trans r5)))
      have nD : D ≠ p := (hD8.same (r1.trans (r2.trans (r3.trans r4)))).ne hDn
      have naD : D ≠ a := fun z => by rw [z, (r1.trans (r2.trans (r3.trans r4))) _ _ ca8] at hDn; cases hDn
      have ntD : D ≠ t := fun z => by rw [z, (r1.trans (r2.trans (r3.trans r4))) _ _ ct] at hDn; cases hDn
      have pr0 : Prs H13 p a t D ns os 4 := by
        refine ⟨hD8.same r0, r0 _ _ ca8, r0 _ _ ct, [t1, t2, t3, t4], [(0, (ns.length : Int) - 1), ((ns.length : Int) - 1, 0), (0, 0), ((ns.length : Int) - 1, (ns.length : Int) - 1)], cD, ?_, Nat.le_refl _, fun q hq => ?_⟩
        · have h0 : PrAt H13 [] [] := ⟨rfl, fun j t p h1 _ => by simp at h1⟩
          exact (((h0.snoc (p := (0, (ns.length : Int) - 1)) ((r2.trans (r3.trans (r4.trans r5))) _ _ c1)).snoc (p := ((ns.length : Int) - 1, 0)) ((r3.trans (r4.trans r5)) _ _ c2)).snoc (p := (0, 0)) ((r4.trans r5) _ _ c3)).snoc (p := ((ns.length : Int) - 1, (ns.length : Int) - 1)) (r5 _ _ c4)
        · simp only [List.mem_cons, List.not_mem_nil, or_false] at hq
          rcases hq with rfl | rfl | rfl | rfl <;> (refine ⟨?_, ?_, ?_, ?_⟩ <;> simp only [] <;> omega)
      clear r0 r1 r2 r3 r4 r5 c1 c2 c3 c4 cD ca8 ct hDn ht1 ht2 ht3 ht4 hD8
      dsimp only [gName]
      refine seqJ (fun σ' H' => ∃ v7 : Option V, σ' = [some (.ref sc), some (.ref p), some (.int m), some (.ref a), some (.ref t), some (.int (ns.length : Nat)), some (.ref D), v7, v8, v9] ∧ Prs H' p a t D ns os 10) (fun fin4 => ?_) ?_
      · refine ⟨6, rfl, by decide, by decide, for_range (lo := 0) (n := 6) (fun j σ H' => ∃ v7 : Option V, σ = [some (.ref sc), some (.ref p), some (.int m), some (.ref a), some (.ref t), some (.int (ns.length : Nat)), some (.ref D), v7, v8, v9] ∧ Prs H' p a t D ns os (4 + j)) ⟨_, rfl, pr0⟩ ?_ ?_⟩
        · rintro j σ H14 hj ⟨w7, rfl, pr⟩
          obtain ⟨ts, ps, cD, hP, hlen, hps⟩ := pr.cD
          refine ⟨_, rfl, .inl ⟨rfl, _, SqL.of cD⟩, ?_⟩
          refine ⟨_, rfl, p, _, rfl, pr.dr, by decide, fun g1 H15 g10 _ _ hD15 b15 => ?_⟩
          have pr15 := pr.but na nt nD hD15 b15
          refine ⟨_, rfl, _, _, rfl, rfl, (by show (0 : Int) < (ns.length : Int); omega), ?_⟩
          refine ⟨_, rfl, p, _, rfl, pr15.dr, by decide, fun g2 H16 g20 _ _ hD16 b16 => ?_⟩
          have pr16 := pr15.but na nt nD hD16 b16
          refine ⟨_, rfl, _, _, rfl, rfl, (by show (0 : Int) < (ns.length : Int); omega), (by show 2 ≤ sizeLine; decide), fun tt htt => ?_⟩
          have r1 := Same.new (o := .tup [.int (g1 % (ns.length : Int)), .int (g2 % (ns.length : Int))]) htt
          have c1 : upd H16 tt (.tup [.int (g1 % (ns.length : Int)), .int (g2 % (ns.length : Int))]) tt = some (.tup [.int (g1 % (ns.length : Int)), .int (g2 % (ns.length : Int))]) := upd_same
          have pr17 := pr16.same r1
          generalize upd H16 tt (.tup [.int (g1 % (ns.length : Int)), .int (g2 % (ns.length : Int))]) = H17 at r1 c1 pr17 ⊢
          clear hP hps hlen cD
          obtain ⟨ts, ps, cD, hP, hlen, hps⟩ := pr17.cD
          refine ⟨D, _, _, rfl, rfl, cD, by rw [List.length_map, hP.1]; exact small1000 (by omega), ?_⟩
          have hnp : (0 : Int) < (ns.length : Int) := by omega
          refine ⟨_, rfl, pr17.dr.at nD, by rw [upd_ne naD.symm]; exact pr17.ca, by rw [upd_ne ntD.symm]; exact pr17.ct, ts ++ [tt], ps ++ [(g1 % (ns.length : Int), g2 % (ns.length : Int))], by rw [upd_same, List.map_append]; rfl, (hP.snoc c1).at cD, by rw [List.length_append, List.length_singleton]; omega, fun q hq => ?_⟩
          rcases List.mem_append.mp hq with u | u
          · exact hps q u
          · rw [List.mem_singleton.mp u]
            exact ⟨Int.emod_nonneg _ (by omega), Int.emod_lt_of_pos _ hnp, Int.emod_nonneg _ (by omega), Int.emod_lt_of_pos _ hnp⟩
        · rintro σ H14 ⟨w7, rfl, pr⟩
          exact fin4 _ _ ⟨w7, rfl, pr⟩
      clear pr0 v7
      rintro _ H14 ⟨v7, rfl, pr0⟩
      refine seqJ (fun σ' H' => ∃ v7 v8 v9 : Option V, σ' = [some (.ref sc), some (.ref p), some (.int m), some (.ref a), some (.ref t), some (.int (ns.length : Nat)), some (.ref D), v7, v8, v9] ∧ Prs H' p a t D ns os 100) (fun fin4 => ?_) ?_
      · refine ⟨_, rfl, _, _, rfl, rfl, _, rfl, ?_⟩
        refine ite2 (fun z => ?_) (fun z => ?_)
        · have z' : (ns.length : Int) < 10 := of_decide_eq_true z
          refine ⟨_, rfl, _, rfl, by omega, by omega, ?_⟩
          rw [Int.toNat_natCast]
          refine for_range (lo := 0) (n := ns.length) (fun j σ H' => ∃ v8 : Option V, σ = [some (.ref sc), some (.ref p), some (.int m), some (.ref a), some (.ref t), some (.int (ns.length : Nat)), some (.ref D), v7, v8, v9] ∧ Prs H' p a t D ns os (10 + 10 * j)) ⟨_, rfl, pr0⟩ ?_ ?_
          · rintro j σ H15 hj ⟨w8, rfl, pr⟩
            obtain ⟨ts, ps, cD, hP, hlen, hps⟩ := pr.cD
            refine ⟨_, rfl, .inl ⟨rfl, _, SqL.of cD⟩, ?_⟩
            refine ⟨_, rfl, _, rfl, by omega, by omega, fun L hL => ?_⟩
            rw [Int.toNat_natCast]
            refine lc_range (lo := 0) (n := ns.length) (g := gName 9) (fun i H' => ∃ (us : List Addr) (qs : List (Int × Int)), H' L = some (.lst (us.map V.ref)) ∧ PrAt H' us qs ∧ qs.length ≤ i ∧ (∀ q ∈ qs, 0 ≤ q.1 ∧ q.1 < (ns.length : Int) ∧ 0 ≤ q.2 ∧ q.2 < (ns.length : Int)) ∧ Same H15 H') ⟨[], [], upd_same, ⟨rfl, fun j t p h1 _ => by simp at h1⟩, Nat.le_refl _, fun q hq => absurd hq (by simp), Same.new hL⟩ ?_ ?_
            · rintro i H16 hi ⟨us, qs, cL, hU, ul, hq, s16⟩
              refine ⟨rfl, ?_⟩
              refine ⟨_, rfl, _, rfl, (by show 2 ≤ sizeLine; decide), fun tt htt => ?_⟩
              have r1 := Same.new (o := .tup [.int (0 + (j : Nat)), .int (0 + (i : Nat))]) htt
              have c1 : upd H16 tt (.tup [.int (0 + (j : Nat)), .int (0 + (i : Nat))]) tt = some (.tup [.int (0 + (j : Nat)), .int (0 + (i : Nat))]) := upd_same
              generalize upd H16 tt (.tup [.int (0 + (j : Nat)), .int (0 + (i : Nat))]) = H17 at r1 c1 ⊢
              refine ⟨_, r1 _ _ cL, by rw [List.length_map, hU.1]; exact small1000 (by omega), us ++ [tt], qs ++ [((0 : Int) + (j : Nat), (0 : Int) + (i : Nat))], by rw [upd_same, List.map_append]; rfl, ((hU.same r1).snoc c1).at (r1 _ _ cL), by rw [List.length_append, List.length_singleton]; omega, fun q hq' => ?_, (s16.trans r1).at hL⟩
              rcases List.mem_append.mp hq' with u | u
              · exact hq q u
              · rw [List.mem_singleton.mp u]
                refine ⟨?_, ?_, ?_, ?_⟩ <;> simp only [] <;> omega
            · rintro H16 ⟨us, qs, cL, hU, ul, hq, s16⟩
              have pr16 := pr.same s16
              have nLD : L ≠ D := fun z => by rw [z, cD] at hL; cases hL
              have cD6 := s16 _ _ cD
              refine ⟨D, L, _, _, rfl, rfl, cD6, cL, ?_, ?_⟩
              · rw [List.length_map, List.length_map, hP.1, hU.1]
                exact line1000 (by omega)
              refine ⟨_, rfl, pr16.dr.at nD, by rw [upd_ne naD.symm]; exact pr16.ca, by rw [upd_ne ntD.symm]; exact pr16.ct, ts ++ us, ps ++ qs, by rw [upd_same, List.map_append], ((hP.same s16).app hU).at cD6, by rw [List.length_append]; omega, fun q hq' => ?_⟩
              rcases List.mem_append.mp hq' with u | u
              · exact hps q u
              · exact hq q u
          · rintro σ H15 ⟨w8, rfl, pr⟩
            obtain ⟨ts, ps, cD, hP, hlen, hps⟩ := pr.cD
            exact fin4 _ _ ⟨_, _, _, rfl, pr.dr, pr.ca, pr.ct, ts, ps, cD, hP, by omega, hps⟩
        · obtain ⟨ts, ps, cD, hP, hlen, hps⟩ := pr0.cD
          exact fin4 _ _ ⟨_, _, _, rfl, pr0.dr, pr0.ca, pr0.ct, ts, ps, cD, hP, by omega, hps⟩
      clear pr0 v7 v8 v9
      rintro _ H15 ⟨v7, v8, v9, rfl, pr⟩
      obtain ⟨ts, ps, cD, hP, hlen, hps⟩ := pr.cD
      refine seqJ (fun σ' H' => ∃ v8 v9 : Option V, σ' = [some (.ref sc), some (.ref p), some (.int m), some (.ref a), some (.ref t), some (.int (ns.length : Nat)), some (.ref D), v7, v8, v9] ∧ Same H15 H') (fun fin4 => ?_) ?_
      · refine ⟨_, rfl, D, rfl, ⟨_, SqL.of cD⟩, ?_⟩
        refine for_list (K := K) (a := D) (xs := ts.map V.ref) (fun j σ H' => ∃ v8 v9 : Option V, σ = [some (.ref sc), some (.ref p), some (.int m), some (.ref a), some (.ref t), some (.int (ns.length : Nat)), some (.ref D), v7, v8, v9] ∧ Same H15 H') ⟨_, _, rfl, Same.refl _⟩ (fun i σ H' _ ⟨_, _, _, k'⟩ => SqL.of (k' _ _ cD)) ?_ ?_
        · rintro j x σ H16 hx ⟨w8, w9, rfl, s16⟩
          obtain ⟨tt, ht, rfl⟩ := get_refs hx
          have hjl : j < ps.length := by rw [← hP.1]; exact (List.getElem?_eq_some_iff.mp ht).1
          have hq := List.getElem?_eq_getElem hjl
          have ctt := hP.2 j tt _ ht hq
          obtain ⟨o1, o2, o3, o4⟩ := hps _ (List.getElem_mem hjl)
          generalize ps[j] = q at ctt o1 o2 o3 o4
          obtain ⟨x, y⟩ := q
          obtain ⟨i, rfl⟩ := Int.eq_ofNat_of_zero_le o1
          obtain ⟨k, rfl⟩ := Int.eq_ofNat_of_zero_le o3
          refine ⟨tt, _, rfl, SqT.of (s16 _ _ ctt), rfl, _, _, rfl, _, _, rfl, rfl, ?_⟩
          dsimp only [gName]
          refine ⟨_, rfl, _, rfl, _, rfl, _, rfl, a, t, os, ns, i, k, rfl, s16 _ _ pr.ca, s16 _ _ pr.ct, it, al, by omega, by omega, fun H17 s17 => ?_⟩
          refine ⟨_, rfl, ?_⟩
          exact ⟨_, _, rfl, s16.trans s17⟩
        · rintro σ H16 ⟨w8, w9, rfl, s16⟩
          exact fin4 _ _ ⟨_, _, rfl, s16⟩
      rintro _ H16 ⟨w8, w9, rfl, s16⟩
      refine ⟨_, rfl, _, _, rfl, rfl, ?_⟩
      exact ⟨(4 - (m + 1)).toNat, by omega, m + 1, _, _, _, _, _, _, _, rfl, rfl, by omega, by omega, pr.dr.same s16⟩
end

section
variable {K : PySem.W.Frag} {mg : Str → Option Value}
theorem bl_mk {h : Heap} (X : K.In h) (G : h.Ns mainGlobals mg) (z : ∀ x ∈ bls, PySem.W.nsIn K mainGlobals x = some none) : Bl mg bls := fun x hx => PySem.W.mg_none_of X G (z x hx)
theorem all_mk {l : PySem.W.OpenLaw} {w : World} {h : Heap} {fa f4 : Addr} (X : K.In h) (G : h.Ns mainGlobals mg) (hfa : mg "law" = some (.ref fa)) (B : Bl mg bls)
    (d1 : DefAt K mg "places_above" splaces_above ["tree", "place"])
    (d2 : DefAt K mg "lowest_above" slowest_above ["tree", "one", "other"])
    (d3 : DefAt K mg "_law_draws" s_law_draws ["script"])
    (d4 : DefAt K mg "_law_take" s_law_take ["draws", "many"])
    (d5 : DefAt K mg "_law_row" s_law_row ["draws", "most"])
    (d6 : DefAt K mg "_law_whole" s_law_whole ["thing"])
    (d7 : DefAt K mg "_law_tree" s_law_tree ["row"])
    (d8 : DefAt K mg "_law_way" s_law_way ["tree", "place"])
    (d9 : DefAt K mg "_law_pair_right" s_law_pair_right ["row", "tree", "one", "other"])
    {od4 an4 : Option Addr} {sl4 : Array (Option Value)} {oc4 kV4 dc4 pm4 cd4 ct4 : Value}
    (a4 : PySem.W.nsIn K mainGlobals "law" = some (some (.ref f4))) (l4 : K.lookup f4 = some ⟨oc4, od4, .func (PySem.W.fnOf "law" "law" (defArgs slaw) (defBody slaw) (defScope slaw) .none kV4 dc4 pm4 an4 cd4 ct4), sl4⟩) (c4 : PySem.W.codeIn K cd4 "law" = true) (k4 : PySem.W.keepIn K (.ref f4) = true) :
    ∃ fd : FuncData, (∀ (s : Shared) (v : Value), BindsTo s fd ⟨[v], []⟩ [("script", v)]) ∧ ∀ base : Heap, K.In base → base.Ns mainGlobals mg → FnOk l.prog w K mg base CX0 4 fa fd ["script"] (spLaw K) := by
  have e := hfa.symm.trans (PySem.W.mg_of X G a4)
  cases e
  have F4 := fun_mk (st := slaw) l4 c4 k4
  refine ⟨PySem.W.fnOf "law" "law" (defArgs slaw) (defBody slaw) (defScope slaw) .none kV4 dc4 pm4 an4 cd4 ct4, fun s v => .of_eq rfl, fun base _ _ => ?_⟩
  have w_places_above := fn_places_above (P := l.prog) (w := w) (K := K) (mg := mg) (base := base) B d1
  have w_lowest_above := fn_lowest_above (P := l.prog) (w := w) (K := K) (mg := mg) (base := base) B d2 w_places_above
  have w__law_draws := fn_draws (P := l.prog) (w := w) (K := K) (mg := mg) (base := base) B d3
  have w__law_take := fn_take (P := l.prog) (w := w) (K := K) (mg := mg) (base := base) B d4
  have w__law_row := fn_row37 (P := l.prog) (w := w) (K := K) (mg := mg) (base := base) B d5 w__law_take
  have w__law_whole := fn_law_wholeO (P := l.prog) (w := w) (K := K) (mg := mg) (base := base) B d6
  have w__law_tree := fn_law_tree (P := l.prog) (w := w) (K := K) (mg := mg) (base := base) B d7
  have w__law_way := fn_law_way (P := l.prog) (w := w) (K := K) (mg := mg) (base := base) B d8
  have w__law_pair_right := fn_pair (P := l.prog) (w := w) (K := K) (mg := mg) (base := base) B d9 w_lowest_above w__law_way w__law_whole
  exact ok_law B F4 w__law_draws w__law_take w__law_row w__law_tree w__law_pair_right
end
theorem walk {l : PySem.W.OpenLaw} {q : Program} {loose : List Str} {XP : (Str → Option Value) → Heap → Prop} {YP : World → Heap → Prop} {d : DefRec} {K : Params → PySem.W.Frag} (hn : l.most = some 63) (hdf : d.params.defaults = []) (hq : PyProof.Rows.recsOf l.prog = PyProof.Rows.recsOf q) (hcl : ∀ w : World, PySem.W.kb_classed (K w.params) = true)
    (hY : ∀ (w : World) (h : Heap), YP w h → (K w.params).In h)
    (F : ∀ (w : World) (mg : Str → Option Value) (fa : Addr) (h : Heap), (K w.params).In h → h.Ns mainGlobals mg → mg d.name = some (.ref fa) →
      ∃ fd : FuncData, (∀ (s : Shared) (u : Value), BindsTo s fd ⟨[u], []⟩ [("script", u)]) ∧ ∀ base : Heap, (K w.params).In base → base.Ns mainGlobals mg → FnOk l.prog w (K w.params) mg base CX0 4 fa fd ["script"] (spLaw (K w.params))) :
    PySem.W.WalkO q loose XP YP l.row.toRowW d [] (fun f vs => PySem.call f vs) :=
  L2.walk_of (n := 63) (k := 4) (x := "script") (CX := fun _ => CX0) (sp := fun w => spLaw (K w.params)) hn (by decide) hdf ⟨rfl, by decide, by decide, rfl⟩ hq hcl hY F (fun _ _ a ns hl _ hS => ⟨a, ns, rfl, hS, hl, fun _ => rfl⟩) fun _ _ _ _ _ z => z


end Law

open PySem PySem.W PyProof.Rows
set_option maxRecDepth 100000 in
set_option maxHeartbeats 0 in
theorem PySem.Challenge.cw_stretchleast_k38_lowest_places_above_holds : PySem.Challenge.rw_stretchleast_k38_lowest_places_above.Holds := by
  w_on; o_law; k_head; (case hw => w_witness2)
  k_fill
  refine Law.walk (l := PySem.Challenge.rw_stretchleast_k38_lowest_places_above) rfl rfl rfl (fun w => by first | rfl | decide +kernel) (fun w h Y => PySem.W.kIn_of Y) ?F
  case F =>
    intro w mg fa h KX G hmg
    refine' Law.all_mk KX G hmg ?B ?d1 ?d2 ?d3 ?d4 ?d5 ?d6 ?d7 ?d8 ?d9 ?a4 ?l4 ?c4 ?k4
    (case B => refine Law.bl_mk KX G ?_; intro x hx; simp only [Law.bls, List.mem_cons, List.not_mem_nil, or_false] at hx; rcases hx with rfl | rfl | rfl | rfl | rfl | rfl | rfl | rfl | rfl | rfl | rfl | rfl | rfl | rfl | rfl | rfl | rfl | rfl | rfl | rfl | rfl <;> k_is)
    (case d1 => refine' L2.defAt_mk KX G ?xa1 ?xl1 ?xc1 ?xk1 ?xb1; (case xa1 => k_is); (case xl1 => k_is); (case xc1 => k_is); (case xk1 => k_is); exact fun _ _ _ _ _ _ us hl => match us, hl with | [_, _], _ => rfl)
    (case d2 => refine' L2.defAt_mk KX G ?xa2 ?xl2 ?xc2 ?xk2 ?xb2; (case xa2 => k_is); (case xl2 => k_is); (case xc2 => k_is); (case xk2 => k_is); exact fun _ _ _ _ _ _ us hl => match us, hl with | [_, _, _], _ => rfl)
    (case d3 => refine' L2.defAt_mk KX G ?xa3 ?xl3 ?xc3 ?xk3 ?xb3; (case xa3 => k_is); (case xl3 => k_is); (case xc3 => k_is); (case xk3 => k_is); exact fun _ _ _ _ _ _ us hl => match us, hl with | [_], _ => rfl)
    (case d4 => refine' L2.defAt_mk KX G ?xa4 ?xl4 ?xc4 ?xk4 ?xb4; (case xa4 => k_is); (case xl4 => k_is); (case xc4 => k_is); (case xk4 => k_is); exact fun _ _ _ _ _ _ us hl => match us, hl with | [_, _], _ => rfl)
    (case d5 => refine' L2.defAt_mk KX G ?xa5 ?xl5 ?xc5 ?xk5 ?xb5; (case xa5 => k_is); (case xl5 => k_is); (case xc5 => k_is); (case xk5 => k_is); exact fun _ _ _ _ _ _ us hl => match us, hl with | [_, _], _ => rfl)
    (case d6 => refine' L2.defAt_mk KX G ?xa6 ?xl6 ?xc6 ?xk6 ?xb6; (case xa6 => k_is); (case xl6 => k_is); (case xc6 => k_is); (case xk6 => k_is); exact fun _ _ _ _ _ _ us hl => match us, hl with | [_], _ => rfl)
    (case d7 => refine' L2.defAt_mk KX G ?xa7 ?xl7 ?xc7 ?xk7 ?xb7; (case xa7 => k_is); (case xl7 => k_is); (case xc7 => k_is); (case xk7 => k_is); exact fun _ _ _ _ _ _ us hl => match us, hl with | [_], _ => rfl)
    (case d8 => refine' L2.defAt_mk KX G ?xa8 ?xl8 ?xc8 ?xk8 ?xb8; (case xa8 => k_is); (case xl8 => k_is); (case xc8 => k_is); (case xk8 => k_is); exact fun _ _ _ _ _ _ us hl => match us, hl with | [_, _], _ => rfl)
    (case d9 => refine' L2.defAt_mk KX G ?xa9 ?xl9 ?xc9 ?xk9 ?xb9; (case xa9 => k_is); (case xl9 => k_is); (case xc9 => k_is); (case xk9 => k_is); exact fun _ _ _ _ _ _ us hl => match us, hl with | [_, _, _, _], _ => rfl)
    (case a4 => k_is); (case l4 => k_is); (case c4 => k_is); (case k4 => k_is)
#print axioms PySem.Challenge.cw_stretchleast_k38_lowest_places_above_holds


