import PyProof.Rows.All
import Wide.All
import OpenK.AllK
import Wide.FinOn
import Lean
import PyProof.EqAt
import PyProof.EqKinds
import PyProof.TupleCall
import PyProof.EnumMake
import PyProof.EnumFor
import PyProof.Draws
import PyProof.DictWalks
import PyProof.ListRange
import KE.KDictLaws
import KE.KEqDat
import KE.KSortTup
import KE.KSorted
import KE.KDictList
import PyProof.ZipIter
import PyProof.Rows.SortWalk
import PyProof.Rows.SumAny
import PyProof.TupleIter
import KE.KIntText
import PyProof.MeetsStr2
import PyProof.StrWalks
import Wide.Txt
import KE.KPairComp
import PyProof.Rows.SortRuns
import KE.KEqDict
import KE.KSortedM
import PySem.Challenge.RW_tanglehouse_k22_polynomials_reckoned
set_option Elab.async false
set_option linter.all false
set_option maxRecDepth 100000
namespace L2
open PySem PySem.Spec PyProof.Rows
abbrev Key := Sum Int Str
def keyIs : Key → Value → Bool
  | .inl k, v => Value.isInt k v
  | .inr x, v => Value.isStrOf x v
def keyH (w : World) : Key → Int
  | .inl k => hashInt k
  | .inr x => hashStr w x
theorem keyIs_shape : ∀ {k : Key} {v : Value}, keyIs k v = true → (∃ i t, k = Sum.inl i ∧ v = Value.int i t) ∨ (∃ x t, k = Sum.inr x ∧ v = Value.str x t)
  | .inl i, v, h => by
    obtain ⟨t, e⟩ := Value.isInt_shape (k := i) (v := v) h
    exact .inl ⟨i, t, rfl, e⟩
  | .inr x, v, h => by
    obtain ⟨t, e⟩ := Value.isStrOf_shape (x := x) (v := v) h
    exact .inr ⟨x, t, rfl, e⟩
theorem keyIs_int (i : Int) (t : Tok) : keyIs (.inl i) (.int i t) = true := by simp [keyIs, Value.isInt]
theorem keyIs_str (x : Str) (t : Tok) : keyIs (.inr x) (.str x t) = true := by simp [keyIs, Value.isStrOf]
theorem key_ll (a b : Int) : decide ((Sum.inl a : Key) = Sum.inl b) = (a == b) := by
  by_cases e : a = b
  · subst e; simp
  · have h : ¬ (Sum.inl a : Key) = Sum.inl b := fun q => e (Sum.inl.inj q)
    rw [decide_eq_false h]
    exact (beq_eq_false_iff_ne.mpr e).symm
theorem key_rr (a b : Str) : decide ((Sum.inr a : Key) = Sum.inr b) = decide (a = b) := by
  by_cases e : a = b
  · subst e; simp
  · have h : ¬ (Sum.inr a : Key) = Sum.inr b := fun q => e (Sum.inr.inj q)
    rw [decide_eq_false h, decide_eq_false e]
theorem key_lr (a : Int) (b : Str) : decide ((Sum.inl a : Key) = Sum.inr b) = false := decide_eq_false (fun q => nomatch q)
theorem key_rl (a : Str) (b : Int) : decide ((Sum.inr a : Key) = Sum.inl b) = false := decide_eq_false (fun q => nomatch q)
def mixKind (prog : Program) (w : World) : PySem.KeyKind prog w Key where
  is := keyIs
  hash := keyH w
  inj := fun v a b ha hb => by
    rcases keyIs_shape ha with ⟨i, t, rfl, rfl⟩ | ⟨x, t, rfl, rfl⟩
    · rcases keyIs_shape hb with ⟨j, u, rfl, e⟩ | ⟨y, u, rfl, e⟩
      · injection e with e1 _; rw [e1]
      · exact nomatch e
    · rcases keyIs_shape hb with ⟨j, u, rfl, e⟩ | ⟨y, u, rfl, e⟩
      · exact nomatch e
      · injection e with e1 _; rw [e1]
  byValue := fun k v h => by
    rcases keyIs_shape h with ⟨i, t, rfl, rfl⟩ | ⟨x, t, rfl, rfl⟩ <;> rfl
  pyHash := fun hv h => by
    rcases keyIs_shape hv with ⟨i, t, rfl, rfl⟩ | ⟨x, t, rfl, rfl⟩
    · exact wpAny_pyHash_int h
    · exact wpAny_pyHash_str h
  eqBool := fun hu hv h => by
    rcases keyIs_shape hu with ⟨i, t, rfl, rfl⟩ | ⟨x, t, rfl, rfl⟩
    · rcases keyIs_shape hv with ⟨j, u, rfl, rfl⟩ | ⟨y, u, rfl, rfl⟩
      · rw [key_ll] at h; exact wpAny_eqBool_int h
      · rw [key_lr] at h; exact SeqAt.EqAt.int_str i t y u _ _ _ _ h
    · rcases keyIs_shape hv with ⟨j, u, rfl, rfl⟩ | ⟨y, u, rfl, rfl⟩
      · rw [key_rl] at h; exact SeqAt.EqAt.str_int x t j u _ _ _ _ h
      · rw [key_rr] at h; exact wpAny_eqBool_str h
  «strs» := fun k x t v h => by
    rcases keyIs_shape h with ⟨i, u, rfl, e⟩ | ⟨y, u, rfl, e⟩
    · exact nomatch e
    · injection e with e1 _
      subst e1
      cases v <;> rfl
theorem mixKind_is (prog : Program) (w : World) (k : Key) (v : Value) : (mixKind prog w).is k v = keyIs k v := rfl
theorem mixKind_int (prog : Program) (w : World) (i : Int) (t : Tok) : (mixKind prog w).is (.inl i) (.int i t) = true := keyIs_int i t
theorem mixKind_str (prog : Program) (w : World) (x : Str) (t : Tok) : (mixKind prog w).is (.inr x) (.str x t) = true := keyIs_str x t
end L2
namespace L2
open PySem PySem.Spec PyProof.Rows
inductive V where
  | non | bl (b : Bool) | int (i : Int) | str (x : Str) | byt (b : Array UInt8) | flt (b : UInt64) | ref (a : Addr) | ty (n : String)
  deriving DecidableEq
def RelV : V → Value → Prop
  | .non, u => u = Value.none
  | .bl b, u => u = Value.bool b
  | .int i, u => ∃ t, u = Value.int i t
  | .str x, u => ∃ t, u = Value.str x t
  | .byt b, u => ∃ t, u = Value.bytes b t
  | .flt b, u => ∃ t, u = Value.float b t
  | .ref a, u => u = Value.ref a
  | .ty n, u => u = Value.type n
abbrev Vals : List V → List Value → Prop := Paired RelV
theorem Vals.length {xs : List V} {us : List Value} (r : Vals xs us) : xs.length = us.length := Paired.length r
theorem Vals.get : ∀ {xs : List V} {us : List Value} {i : Nat} {x : V}, Vals xs us → xs[i]? = some x → ∃ u, us[i]? = some u ∧ RelV x u
  | _, _, _, _, .nil, e => by simp at e
  | _, _, 0, _, .cons r _, e => by simp at e; subst e; exact ⟨_, rfl, r⟩
  | _, _, i + 1, x, .cons _ t, e => by
    obtain ⟨u, h1, h2⟩ := Vals.get (i := i) (x := x) t (by simpa using e)
    exact ⟨u, by simpa using h1, h2⟩
theorem Vals.set {x : V} {u : Value} (r : RelV x u) : ∀ {xs : List V} {us : List Value} (i : Nat), Vals xs us → Vals (xs.set i x) (us.set i u)
  | _, _, _, .nil => .nil
  | _, _, 0, .cons _ t => .cons r t
  | _, _, i + 1, .cons q t => .cons q (Vals.set r i t)
theorem Vals.append : ∀ {xs ys : List V} {us ws : List Value}, Vals xs us → Vals ys ws → Vals (xs ++ ys) (us ++ ws)
  | _, _, _, _, .nil, s => s
  | _, _, _, _, .cons r t, s => .cons r (Vals.append t s)
theorem Vals.take : ∀ {xs : List V} {us : List Value} (n : Nat), Vals xs us → Vals (xs.take n) (us.take n)
  | _, _, 0, _ => .nil
  | _, _, _ + 1, .nil => .nil
  | _, _, n + 1, .cons r t => .cons r (Vals.take n t)
theorem Vals.drop : ∀ {xs : List V} {us : List Value} (n : Nat), Vals xs us → Vals (xs.drop n) (us.drop n)
  | _, _, 0, r => r
  | _, _, _ + 1, .nil => .nil
  | _, _, n + 1, .cons _ t => Vals.drop n t
def RelO : Option V → Option Value → Prop
  | some v, some u => RelV v u
  | none, none => True
  | _, _ => False
def KV {κ : Type} : List (κ × V) → List (κ × Value) → Prop := Paired fun (p : κ × V) (q : κ × Value) => p.1 = q.1 ∧ RelV p.2 q.2
def kV : Key → V
  | .inl i => .int i
  | .inr x => .str x
inductive HO where
  /-- a list -/
  | lst (xs : List V)
  /-- a tuple (never changes) -/
  | tup (xs : List V)
  /-- a dict whose keys are ints and texts; one whose keys are tuples of ints and texts (the empty one is both) -/
  | dK (kvs : List (Key × V)) | dT (kvs : List (List Key × V))
  /-- a set of ints: its members, its size -/
  | set (S : Int → Bool) (n : Nat)
  /-- an instance of the class at C, its dict at dx, its attributes -/
  | ins (C dx : Addr) (fs : List (Str × V))
  /-- the dict of the instance at x -/
  | own (x : Addr)
  /-- the dict of an exception -/
  | xd (fs : List (Str × V))
  /-- a bound method, f of x -/
  | met (f x : Addr)
  /-- a range object lo, lo + 1, .. below hi -/
  | rng (lo hi : Int)
  /-- a thing that is known to the object (the script; a dict while a loop walks it): read, never written while it is so -/
  | frz (o : Obj) (u : HO)
  /-- a code object's table -/
  | tbl (ps : Array Value)
  /-- any other thing, by what is true of its one object (a def of one's own: SetO a S n := HO.ext fun h => ..) -/
  | ext (φ : Heap → Prop)
abbrev Hp := Addr → Option HO
def upd (H : Hp) (a : Addr) (o : HO) : Hp := fun b => if b = a then some o else H b
theorem upd_same {H : Hp} {a : Addr} {o : HO} : upd H a o a = some o := by unfold upd; rw [if_pos rfl]
theorem upd_ne {H : Hp} {a b : Addr} {o : HO} (h : b ≠ a) : upd H a o b = H b := by unfold upd; rw [if_neg h]
theorem ne_of {H : Hp} {a b : Addr} {o u : HO} (h : H a = some o) (h' : H b = some u) (d : o ≠ u) : a ≠ b := by
  intro e; subst e; rw [h] at h'; exact d (Option.some.inj h')
theorem ne_of_none {H : Hp} {a b : Addr} {o : HO} (h : H a = some o) (h' : H b = none) : a ≠ b := by
  intro e; subst e; rw [h] at h'; cases h'
section
variable (P : Program) (w : World)
def ObjOk (H : Hp) (h : Heap) (a : Addr) : HO → Prop
  | .lst xs => xs.length ≤ sizeLine ∧ ∃ (its : List Value) (n : Nat), Vals xs its ∧ h.get? a = some { cls := .type "list", data := .seq its.toArray n }
  | .tup xs => xs.length ≤ sizeLine ∧ ∃ its : List Value, Vals xs its ∧ IsTup h a its.toArray
  | .dK kvs => kvs.length ≤ sizeLine ∧ (a == sysModules) = false ∧ ∃ vs, KV kvs vs ∧ h.DictOf (mixKind P w) a vs
  | .dT kvs => kvs.length ≤ sizeLine ∧ (a == sysModules) = false ∧ ∃ xs : List (List Key × Addr × Value),
      Paired (fun (p : List Key × V) (q : List Key × Addr × Value) => p.1 = q.1 ∧ H q.2.1 = some (.tup (p.1.map kV)) ∧ RelV p.2 q.2.2) kvs xs ∧
      ∃ o es ep, h.get? a = some o ∧ o.ExactDict ∧ o.data = .dict es ep ∧ es.toList = xs.map (entryOfKey (tupleKind (mixKind P w))) ∧ (xs.map (·.1)).Nodup
  | .set S n => h.SetOf (intKind P w) a S n
  | .ins C dx fs => H dx = some (.own a) ∧ fs.length ≤ 1000 ∧ dx ≠ a ∧ h.get? a = some (PySem.W.instObj C dx) ∧
      ∃ mA, h.Ns1 dx mA ∧ (∀ f, RelO (fs.lookup f) (mA f)) ∧ PySem.Within mA (fs.map (·.1))
  | .own _ => ∃ o, h.get? a = some o
  | .xd fs => ∃ mA, h.Ns1 a mA ∧ ∀ f, RelO (fs.lookup f) (mA f)
  | .rng lo hi => ∃ t u v, h.get? a = some { cls := .type "range", data := .fields #[.int lo t, .int hi u, .int 1 v] }
  | .frz o u => h.get? a = some o ∧ ObjOk H h a u
  | .tbl ps => h.get? a = some { cls := .none, data := .fields ps }
  | .met f x => h.get? a = some (PySem.W.methodObj (.ref f) (.ref x))
  | .ext φ => φ h ∧ (∃ o, h.get? a = some o) ∧ ∀ h1 h2 : Heap, φ h1 → (∀ o, h1.get? a = some o → h2.get? a = some o) → φ h2
def HOk (H : Hp) (h : Heap) : Prop := ∀ a o, H a = some o → ObjOk P w H h a o
end
section
variable {P : Program} {w : World} {H H' : Hp} {h h' : Heap} {a : Addr} {o : HO}
theorem ObjOk.lt (x : ObjOk P w H h a o) : a < h.objs.size := by
  cases o with
  | lst xs => obtain ⟨_, _, _, _, e⟩ := x; exact Heap.lt_size e
  | tup xs => obtain ⟨_, _, _, p⟩ := x; exact p.lt
  | dK kvs => obtain ⟨_, _, _, _, o, _, _, e, _⟩ := x; exact Heap.lt_size e
  | dT kvs => obtain ⟨_, _, _, _, o, _, _, e, _⟩ := x; exact Heap.lt_size e
  | set S n => obtain ⟨o, _, _, _, e, _⟩ := x; exact Heap.lt_size e
  | ins C dx fs => obtain ⟨_, _, _, e, _⟩ := x; exact Heap.lt_size e
  | own y => obtain ⟨_, e⟩ := x; exact Heap.lt_size e
  | xd fs => obtain ⟨_, ⟨_, _, _, e, _⟩, _⟩ := x; exact Heap.lt_size e
  | rng lo hi => obtain ⟨_, _, _, e⟩ := x; exact Heap.lt_size e
  | frz ob u => obtain ⟨e, _⟩ := x; exact Heap.lt_size e
  | tbl ps => exact Heap.lt_size (show h.get? a = some _ from x)
  | met f y => exact Heap.lt_size (show h.get? a = some _ from x)
  | ext φ => obtain ⟨_, ⟨_, e⟩, _⟩ := x; exact Heap.lt_size e
theorem Paired.mapP {α β : Type} {F G : α → β → Prop} : ∀ {l₁ : List α} {l₂ : List β}, Paired F l₁ l₂ → (∀ a b, F a b → G a b) → Paired G l₁ l₂
  | _, _, .nil, _ => .nil
  | _, _, .cons r t, f => .cons (f _ _ r) (Paired.mapP t f)
theorem ObjOk.stay (x : ObjOk P w H h a o) (k : ∀ b u, (b = a ∨ H b = some (.own a)) → h.get? b = some u → h'.get? b = some u)
    (ho : ∀ b, H b = some (.own a) → H' b = some (.own a)) (ht : ∀ b xs, H b = some (.tup xs) → H' b = some (.tup xs)) : ObjOk P w H' h' a o := by
  induction o with
  | lst xs => obtain ⟨z, its, n, r, e⟩ := x; exact ⟨z, its, n, r, k _ _ (.inl rfl) e⟩
  | tup xs => obtain ⟨z, its, r, ob, e, c⟩ := x; exact ⟨z, its, r, ob, k _ _ (.inl rfl) e, c⟩
  | dK kvs => obtain ⟨z, y, vs, r, ob, es, ep, e, c⟩ := x; exact ⟨z, y, vs, r, ob, es, ep, k _ _ (.inl rfl) e, c⟩
  | dT kvs =>
    obtain ⟨z, y, xs, r, ob, es, ep, e, c⟩ := x
    exact ⟨z, y, xs, Paired.mapP r fun p q z => ⟨z.1, ht _ _ z.2.1, z.2.2⟩, ob, es, ep, k _ _ (.inl rfl) e, c⟩
  | set S n => obtain ⟨ob, es, ep, t, e, c⟩ := x; exact ⟨ob, es, ep, t, k _ _ (.inl rfl) e, c⟩
  | ins C dx fs =>
    obtain ⟨d, z, ne, e, mA, ⟨od, es, ep, e2, c⟩, r⟩ := x
    exact ⟨ho _ d, z, ne, k _ _ (.inl rfl) e, mA, ⟨od, es, ep, k _ _ (.inr d) e2, c⟩, r⟩
  | own y => obtain ⟨ob, e⟩ := x; exact ⟨ob, k _ _ (.inl rfl) e⟩
  | xd fs => obtain ⟨mA, ⟨od, es, ep, e, c⟩, r⟩ := x; exact ⟨mA, ⟨od, es, ep, k _ _ (.inl rfl) e, c⟩, r⟩
  | rng lo hi => obtain ⟨t, u, v, e⟩ := x; exact ⟨t, u, v, k _ _ (.inl rfl) e⟩
  | frz ob u ih => obtain ⟨e, q⟩ := x; exact ⟨k _ _ (.inl rfl) e, ih q⟩
  | tbl ps =>
    have e : h.get? a = some { cls := .none, data := .fields ps } := x
    show h'.get? a = some { cls := .none, data := .fields ps }
    exact k a _ (.inl rfl) e
  | met f y =>
    have e : h.get? a = some (PySem.W.methodObj (.ref f) (.ref y)) := x
    show h'.get? a = some (PySem.W.methodObj (.ref f) (.ref y))
    exact k a _ (.inl rfl) e
  | ext φ => obtain ⟨p, ⟨o, e⟩, st⟩ := x; exact ⟨st _ _ p fun o q => k _ _ (.inl rfl) q, ⟨o, k _ _ (.inl rfl) e⟩, st⟩
theorem HOk.lt (x : HOk P w H h) (e : H a = some o) : a < h.objs.size := (x a o e).lt
theorem HOk.fresh (x : HOk P w H h) (e : h.objs.size ≤ a) : H a = none := by
  cases q : H a with
  | none => rfl
  | some u => exact absurd (Nat.lt_of_lt_of_le (x.lt q) e) (Nat.lt_irrefl _)
theorem HOk.kept (x : HOk P w H h) (k : ∀ b u, h.get? b = some u → h'.get? b = some u) : HOk P w H h' := fun a o e =>
  (x a o e).stay (fun b u _ q => k b u q) (fun _ q => q) fun _ _ q => q
theorem HOk.laid (x : HOk P w H h) (k : ∀ b u, h.get? b = some u → h'.get? b = some u) (hp : h.objs.size ≤ a) (new : ObjOk P w (upd H a o) h' a o) : HOk P w (upd H a o) h' := fun b u e => by
  have hn := x.fresh hp
  by_cases hb : b = a
  · subst hb; rw [upd_same] at e; cases e; exact new
  · rw [upd_ne hb] at e
    exact (x b u e).stay (fun c v _ q => k c v q) (fun c q => by rw [upd_ne (ne_of_none q hn)]; exact q) fun c xs q => by rw [upd_ne (ne_of_none q hn)]; exact q
end
def Rd (H : Hp) (a : Addr) (u : HO) : Prop := H a = some u ∨ ∃ o, H a = some (.frz o u)
theorem Rd.of {H : Hp} {a : Addr} {u : HO} (h : H a = some u) : Rd H a u := .inl h
theorem Rd.ok {P : Program} {w : World} {H : Hp} {h : Heap} {a : Addr} {u : HO} (r : Rd H a u) (x : HOk P w H h) : ObjOk P w H h a u := by
  rcases r with r | ⟨o, r⟩
  · exact x a u r
  · obtain ⟨_, q⟩ := x a _ r
    exact q
def Mut : Option HO → Prop
  | some (.lst _) => True
  | some (.dK _) => True
  | some (.dT _) => True
  | some (.set _ _) => True
  | some (.ins _ _ _) => True
  | some (.ext _) => True
  | _ => False
section
variable {P : Program} {w : World} {H : Hp} {h h' : Heap} {x e : Addr} {o' : HO}
theorem HOk.write (ok : HOk P w H h) (mu : Mut (H x)) (he : e = x ∨ H e = some (.own x)) (k : ∀ b u, b ≠ e → h.get? b = some u → h'.get? b = some u) (heo : ∃ u, h'.get? e = some u)
    (new : ObjOk P w (upd H x o') h' x o') : HOk P w (upd H x o') h' := fun b u q => by
  have nown : ∀ c y, H c = some (.own y) → c ≠ x := fun c y r z => by subst z; rw [r] at mu; exact mu
  have ntup : ∀ c xs, H c = some (.tup xs) → c ≠ x := fun c xs r z => by subst z; rw [r] at mu; exact mu
  by_cases hb : b = x
  · subst hb; rw [upd_same] at q; cases q; exact new
  · rw [upd_ne hb] at q
    by_cases hbe : b = e
    · have q' : H b = some (.own x) := by
        rcases he with z | z
        · exact absurd (hbe.trans z) hb
        · rw [hbe]; exact z
      rw [q] at q'; cases q'
      obtain ⟨v, hv⟩ := heo
      exact ⟨v, by rw [hbe]; exact hv⟩
    · refine (ok b u q).stay (fun c v hc r => k c v ?_ r) (fun c r => by rw [upd_ne (nown c b r)]; exact r) fun c xs r => by rw [upd_ne (ntup c xs r)]; exact r
      rcases hc with rfl | hc
      · exact hbe
      · rintro rfl
        rcases he with z | z
        · exact nown c b hc z
        · rw [hc] at z; cases z; exact hb rfl
end
structure Un (fs ex : List Addr) (H H' : Hp) (h h' : Heap) : Prop where
  keep : ∀ b o, h.get? b = some o → H b = none → b ∉ fs → b ∉ ex → h'.get? b = some o
  slot : ∀ b o, h.get? b = some o → H b = none → b ∈ fs → b ∉ ex → ∃ sl, h'.get? b = some { o with slots := sl }
  free : ∀ b o, h.get? b = some o → H b = none → b ∉ ex → H' b = none
  there : ∀ b o, h.get? b = some o → b ∉ ex → ∃ o', h'.get? b = some o'
  tups : ∀ b xs, H b = some (.tup xs) → H' b = some (.tup xs)
  frzs : ∀ b o u, H b = some (.frz o u) → H' b = some (.frz o u)
  tbls : ∀ b ps, H b = some (.tbl ps) → ∃ more, H' b = some (.tbl (ps ++ more))
section
variable {fs fs' ex ex' : List Addr} {H H1 H2 : Hp} {h h1 h2 h' : Heap} {a x e : Addr} {o : HO}
theorem Un.any (u : Un fs ex H H1 h h1) {b : Addr} {ob : Obj} (q : h.get? b = some ob) (n : H b = none) (hx : b ∉ ex) : ∃ sl, h1.get? b = some { ob with slots := sl } := by
  by_cases hb : b ∈ fs
  · exact u.slot b ob q n hb hx
  · exact ⟨ob.slots, u.keep b ob q n hb hx⟩
theorem Un.trans (a : Un fs ex H H1 h h1) (b : Un fs ex H1 H2 h1 h2) : Un fs ex H H2 h h2 where
  keep := fun c ob q n hc hx => b.keep c ob (a.keep c ob q n hc hx) (a.free c ob q n hx) hc hx
  slot := fun c ob q n hc hx => by
    obtain ⟨sl, e1⟩ := a.slot c ob q n hc hx
    obtain ⟨sl', e2⟩ := b.slot c _ e1 (a.free c ob q n hx) hc hx
    exact ⟨sl', e2⟩
  free := fun c ob q n hx => by
    obtain ⟨o', e1⟩ := a.there c ob q hx
    exact b.free c o' e1 (a.free c ob q n hx) hx
  there := fun c ob q hx => by
    obtain ⟨o', e1⟩ := a.there c ob q hx
    exact b.there c o' e1 hx
  tups := fun c xs q => b.tups c xs (a.tups c xs q)
  frzs := fun c ob xs q => b.frzs c ob xs (a.frzs c ob xs q)
  tbls := fun c ps q => by
    obtain ⟨m1, e1⟩ := a.tbls c ps q
    obtain ⟨m2, e2⟩ := b.tbls c _ e1
    exact ⟨m1 ++ m2, by rw [e2, Array.append_assoc]⟩
theorem Un.kept (k : ∀ b u, h.get? b = some u → h'.get? b = some u) : Un fs ex H H h h' :=
  ⟨fun b ob q _ _ _ => k b ob q, fun b ob q _ _ _ => ⟨ob.slots, k b ob q⟩, fun _ _ _ n _ => n, fun b ob q _ => ⟨ob, k b ob q⟩, fun _ _ q => q, fun _ _ _ q => q, fun _ ps q => ⟨#[], by rw [q]; simp⟩⟩
theorem Un.refl : Un fs ex H H h h := Un.kept fun _ _ q => q
theorem Un.laid (k : ∀ b u, h.get? b = some u → h'.get? b = some u) (hp : h.objs.size ≤ a) (hn : H a = none) : Un fs ex H (upd H a o) h h' where
  keep := fun b u q _ _ _ => k b u q
  slot := fun b u q _ _ _ => ⟨u.slots, k b u q⟩
  free := fun b u q n _ => by rw [upd_ne (Nat.ne_of_lt (Nat.lt_of_lt_of_le (Heap.lt_size q) hp))]; exact n
  there := fun b u q _ => ⟨u, k b u q⟩
  tups := fun b xs q => by rw [upd_ne (ne_of_none q hn)]; exact q
  frzs := fun b u xs q => by rw [upd_ne (ne_of_none q hn)]; exact q
  tbls := fun b ps q => ⟨#[], by rw [upd_ne (ne_of_none q hn), q]; simp⟩
theorem Un.write (mu : Mut (H x)) (he : e = x ∨ H e = some (.own x)) (k : ∀ b u, b ≠ e → h.get? b = some u → h'.get? b = some u) (heo : ∃ u, h'.get? e = some u) : Un fs ex H (upd H x o) h h' := by
  have hx : ∀ b, H b = none → b ≠ x := fun b n z => by subst z; rw [n] at mu; exact mu
  have hb : ∀ b, H b = none → b ≠ e := fun b n z => by
    subst z
    rcases he with r | r
    · exact hx b n r
    · rw [n] at r; cases r
  have hm : ∀ b u, H b = some u → ¬ Mut (some u) → b ≠ x := fun b u q nm z => by subst z; rw [q] at mu; exact nm mu
  refine ⟨fun b u q n _ _ => k b u (hb b n) q, fun b u q n _ _ => ⟨u.slots, k b u (hb b n) q⟩, fun b u q n _ => by rw [upd_ne (hx b n)]; exact n, fun b u q _ => ?_,
    fun b xs q => by rw [upd_ne (hm b _ q fun z => z)]; exact q, fun b u xs q => by rw [upd_ne (hm b _ q fun z => z)]; exact q, fun b ps q => ⟨#[], by rw [upd_ne (hm b _ q fun z => z), q]; simp⟩⟩
  by_cases hbe : b = e
  · subst hbe; exact heo
  · exact ⟨u, k b u hbe q⟩
theorem Un.mono (u : Un fs ex H H1 h h1) (hs : ∀ b ∈ fs, b ∈ fs') (hx : ∀ b ∈ ex, b ∈ ex') : Un fs' ex' H H1 h h1 :=
  ⟨fun b ob q n hb he => u.keep b ob q n (fun z => hb (hs b z)) fun z => he (hx b z), fun _ _ q n _ he => u.any q n fun z => he (hx _ z), fun b ob q n he => u.free b ob q n fun z => he (hx b z), fun b ob q he => u.there b ob q fun z => he (hx b z), u.tups, u.frzs, u.tbls⟩
end
def trk (h : Heap) (H : Hp) : List Addr := (List.range h.objs.size).filter fun a => (H a).isSome
def hidT (h : Heap) (H : Hp) : Heap := PySem.W.hideAll h (trk h H)
theorem hidT_size (h : Heap) (H : Hp) : (hidT h H).objs.size = h.objs.size := PySem.W.hideAll_size _ _
theorem hidT_get {h : Heap} {H : Hp} {b : Addr} {o : Obj} (e : h.get? b = some o) (n : H b = none) : (hidT h H).get? b = some o :=
  PySem.W.hideAll_get _ e fun hm => by
    have q : (H b).isSome = true := (List.mem_filter.mp hm).2
    rw [n] at q; simp at q
theorem of_hidT {h : Heap} {H : Hp} {b : Addr} {o : Obj} (e : (hidT h H).get? b = some o) : h.get? b = some o ∧ H b = none := by
  have e' : h.get? b = some o := PySem.W.of_hideAll (trk h H) e
  refine ⟨e', ?_⟩
  cases q : H b with
  | none => rfl
  | some x =>
    have hm : b ∈ trk h H := List.mem_filter.mpr ⟨List.mem_range.mpr (Heap.lt_size e'), by simp [q]⟩
    have z : (hidT h H).get? b = none := PySem.W.hideAll_none (trk h H) hm
    rw [z] at e; cases e
def allNews (g h : Heap) (L : Addr) : List (Addr × Obj) := (List.range h.objs.size).filterMap fun a => if a = L ∨ (g.get? a).isSome = true then none else (h.get? a).map fun o => (a, o)
def rest (g h : Heap) (L d : Addr) : List (Addr × Obj) := (allNews g h L).filter fun p => decide (p.1 ≠ d)
end L2
namespace L2
open PySem PySem.Spec PyProof.Rows
structure Mod (K : PySem.W.Frag) (mg : Str → Option Value) (base : Heap) : Prop where
  kin : K.In base
  glob : base.Ns mainGlobals mg
  blt : ∃ mb, base.Ns builtinsNs mb ∧ ∀ x : Str, x ≠ "__name__" → mb x = bootBuiltins x
  nolimit : base.NoLimit
structure Cx where
  prog : Program
  w : World
  K : PySem.W.Frag
  mg : Str → Option Value
  base : Heap
  A : Around
  N : List Str
  s₀ : Shared
  H₀ : Hp
  env : Env
  outer : List Env
  stack : List Env
  ex : List Addr
  fn : Str → Bool
  calm : Bool
  pn : List (Addr × Obj)
  xe : Value → Shared → Prop
def frs (l : List Env) : List Addr := l.filterMap (·.frame)
abbrev Cx.fs (X : Cx) : List Addr := frs X.outer
def Vis (sc : Scope) (x : Str) : Prop := sc.names.lookup x = some .local ∨ sc.names.lookup x = some .cell ∨ sc.names.lookup x = some .free
def Loc (sc : Scope) (x : Str) : Prop := sc.names.lookup x = some .local ∨ sc.names.lookup x = some .cell
def Look (env : Env) (h : Heap) (m : Str → Option Value) (x : Str) (u : Value) : Prop :=
  (env.kindOf x = some .local ∧ m x = some u) ∨ ((env.kindOf x = some .cell ∨ env.kindOf x = some .free) ∧ ∃ c, env.cells.lookup x = some c ∧ h.IsCell c (some u))
structure Cx.Ok (X : Cx) : Prop where
  mod : Mod X.K X.mg X.base
  kind : X.env.scope.kind = .function
  glob : X.env.globals = mainGlobals
  blt : X.env.builtins = builtinsNs
  above : X.s₀.heap.objs.size ≤ X.env.locals
  inj : ∀ x y c, X.env.cells.lookup x = some c → X.env.cells.lookup y = some c → x = y
  has : ∀ x, (X.env.kindOf x = some .cell ∨ X.env.kindOf x = some .free) → ∃ c, X.env.cells.lookup x = some c
  cab : ∀ x c, X.fn x = true → X.env.cells.lookup x = some c → X.s₀.heap.objs.size ≤ c
  hd : X.calm = true → X.A.handled = none
  frames : X.A.frames = some X.stack
  stk : X.stack = X.outer ∨ (X.stack = X.env :: X.outer ∧ X.env.frame = some X.env.locals)
  exf : ∀ b ∈ X.ex, b ≠ X.env.locals ∧ ∀ x c, X.env.cells.lookup x = some c → c ≠ b
  bs : ∀ b o, X.base.get? b = some o → X.s₀.heap.get? b = some o ∧ X.H₀ b = none
  bsz : X.base.objs.size ≤ X.s₀.heap.objs.size
  noex : ∀ b o, X.base.get? b = some o → b ∉ X.ex
  exfs : ∀ b ∈ X.ex, b ∉ X.fs
  funs : X.s₀.heap.FunFrames X.base X.outer
  frf : ∀ b ∈ X.fs, X.H₀ b = none
structure Inv (X : Cx) (pins : List (Addr × Obj)) (σ : List (Option V)) (H : Hp) (s : Shared) : Prop where
  ok : X.Ok
  os : s.os = X.s₀.os
  bare : AllBare s.gens
  base : Un X.fs X.ex X.H₀ H X.s₀.heap s.heap
  loc : ∃ m, s.heap.Ns X.env.locals m ∧ ∀ (i : Nat) (x : Str) (v : V), X.N[i]? = some x → σ[i]? = some (some v) → Vis X.env.scope x → ∃ u, RelV v u ∧ Look X.env s.heap m x u
  cell : ∀ x c, X.env.cells.lookup x = some c → ∃ v, s.heap.IsCell c v
  free : H X.env.locals = none
  freeC : ∀ x c, X.env.cells.lookup x = some c → H c = none
  pin : ∀ p ∈ X.pn ++ pins, s.heap.get? p.1 = some p.2 ∧ H p.1 = none ∧ p.1 ≠ X.env.locals ∧ p.1 ∉ X.fs ∧ ∀ v, p.2.data ≠ .cell v
  hok : HOk X.prog X.w H s.heap
  len : σ.length = X.N.length
section
variable {X : Cx} {pins : List (Addr × Obj)} {σ : List (Option V)} {H H' : Hp} {s : Shared} {h' : Heap}
theorem Cx.Ok.nofr (ok : X.Ok) {b : Addr} {o : Obj} (e : X.base.get? b = some o) : b ∉ X.fs := fun hb => by
  have := (ok.funs.mem hb).1
  rw [e] at this; cases this
theorem Inv.bs (I : Inv X pins σ H s) : ∀ b o, X.base.get? b = some o → s.heap.get? b = some o ∧ H b = none := fun b o e =>
  ⟨I.base.keep b o (I.ok.bs b o e).1 (I.ok.bs b o e).2 (I.ok.nofr e) (I.ok.noex b o e), I.base.free b o (I.ok.bs b o e).1 (I.ok.bs b o e).2 (I.ok.noex b o e)⟩
theorem Inv.bk (I : Inv X pins σ H s) : ∀ b o, X.base.get? b = some o → s.heap.get? b = some o := fun b o e => (I.bs b o e).1
theorem Inv.mod (I : Inv X pins σ H s) : Mod X.K X.mg X.base := I.ok.mod
theorem Inv.kIn (I : Inv X pins σ H s) : X.K.In s.heap := I.ok.mod.kin.keeps I.bk
theorem Inv.nolimit (I : Inv X pins σ H s) : s.heap.NoLimit := I.ok.mod.nolimit.keeps I.bk
theorem Inv.fr (I : Inv X pins σ H s) : ∃ m, Fr X.base X.env.locals s.heap m :=
  let ⟨m, hn, _⟩ := I.loc
  ⟨m, hn, I.bk, Nat.le_trans I.ok.bsz I.ok.above⟩
theorem Inv.lt (I : Inv X pins σ H s) : X.env.locals < s.heap.objs.size := let ⟨_, hn, _⟩ := I.loc; hn.lt
theorem Inv.sz (I : Inv X pins σ H s) : X.s₀.heap.objs.size ≤ s.heap.objs.size := Nat.le_trans I.ok.above (Nat.le_of_lt I.lt)
theorem Inv.nofs (I : Inv X pins σ H s) {a : Addr} (h : s.heap.objs.size ≤ a) : a ∉ X.fs := fun hb => by
  obtain ⟨_, o, ho, _⟩ := I.ok.funs.mem hb
  exact absurd (Nat.lt_of_lt_of_le (Heap.lt_size ho) (Nat.le_trans I.sz h)) (Nat.lt_irrefl _)
theorem Inv.cne (I : Inv X pins σ H s) : ∀ x c, X.env.cells.lookup x = some c → c ≠ X.env.locals := fun x c e z => by
  obtain ⟨v, o, ho, hd⟩ := I.cell x c e
  obtain ⟨m, ⟨o', es, ep, ho', hd', _⟩, _⟩ := I.loc
  rw [z, ho'] at ho; cases ho; rw [hd'] at hd; cases hd
theorem Inv.funs (I : Inv X pins σ H s) : s.heap.FunFrames X.base X.outer := by
  have all : ∀ (l : List Env), (∀ b ∈ frs l, b ∈ X.fs) → X.s₀.heap.FunFrames X.base l → s.heap.FunFrames X.base l := by
    intro l
    induction l with
    | nil => intro _ _; trivial
    | cons env r ih =>
      intro hs hl
      obtain ⟨hk, ⟨L, o, hf, hn, ho, hd⟩, hr⟩ := hl
      have hL : L ∈ X.fs := hs L (by unfold frs; rw [List.filterMap_cons, hf]; exact List.mem_cons_self)
      obtain ⟨sl, e⟩ := I.base.slot L o ho (I.ok.frf L hL) hL fun z => I.ok.exfs L z hL
      exact ⟨hk, ⟨L, _, hf, hn, e, hd⟩, ih (fun b hb => hs b (by unfold frs; rw [List.filterMap_cons, hf]; exact List.mem_cons_of_mem _ hb)) hr⟩
  exact all X.outer (fun _ hb => hb) I.ok.funs
theorem Inv.stack (I : Inv X pins σ H s) : s.heap.FunFrames X.base X.stack := by
  rcases I.ok.stk with e | ⟨e, hf⟩
  · rw [e]; exact I.funs
  · rw [e]
    obtain ⟨m, hn, _⟩ := I.loc
    refine .cons (by rw [I.ok.kind]; decide) hf hn ?_ I.funs
    exact Heap.get?_none_of_le (Nat.le_trans I.ok.bsz I.ok.above)
theorem Inv.stkSub (I : Inv X pins σ H s) : ∀ b ∈ frs X.stack, b ∈ X.env.locals :: X.fs := fun b hb => by
  rcases I.ok.stk with e | ⟨e, hf⟩
  · rw [e] at hb; exact List.mem_cons_of_mem _ hb
  · rw [e] at hb
    unfold frs at hb
    rw [List.filterMap_cons, hf] at hb
    exact hb
theorem Inv.stkFree (I : Inv X pins σ H s) : ∀ b ∈ frs X.stack, H b = none := fun b hb => by
  rcases List.mem_cons.mp (I.stkSub b hb) with e | hb
  · rw [e]; exact I.free
  · obtain ⟨_, o, ho, _⟩ := I.ok.funs.mem hb
    exact I.base.free b o ho (I.ok.frf b hb) fun z => I.ok.exfs b z hb
theorem Inv.step {g' : Array GenState} {t' : Nat} {d' : Drawn} {ch : List Addr} (I : Inv X pins σ H s)
    (hch : ∀ b ∈ ch, (b ∈ X.ex ∨ X.s₀.heap.objs.size ≤ b) ∧ b ≠ X.env.locals ∧ (∀ x c, X.env.cells.lookup x = some c → c ≠ b) ∧ ∀ p ∈ X.pn ++ pins, p.1 ≠ b)
    (keep : ∀ b o, b ≠ X.env.locals → b ∉ X.fs → b ∉ ch → s.heap.get? b = some o → H b = none → h'.get? b = some o)
    (slot : ∀ b o, b ≠ X.env.locals → b ∈ X.fs → b ∉ ch → s.heap.get? b = some o → H b = none → ∃ sl, h'.get? b = some { o with slots := sl }) (free : ∀ b o, b ∉ ch → s.heap.get? b = some o → H b = none → H' b = none)
    (there : ∀ b o, b ∉ ch → s.heap.get? b = some o → ∃ o', h'.get? b = some o')
    (tups : ∀ b xs, H b = some (.tup xs) → H' b = some (.tup xs)) (frzs : ∀ b o u, H b = some (.frz o u) → H' b = some (.frz o u)) (tbls : ∀ b ps, H b = some (.tbl ps) → ∃ more, H' b = some (.tbl (ps ++ more)))
    (ns : ∀ m, s.heap.Ns X.env.locals m → h'.Ns X.env.locals m) (hok : HOk X.prog X.w H' h') (hg : AllBare g') :
    Inv X pins σ H' { s with heap := h', gens := g', drawn := d', toks := t' } := by
  have neL : ∀ b o, X.s₀.heap.get? b = some o → b ≠ X.env.locals := fun b o e => Nat.ne_of_lt (Nat.lt_of_lt_of_le (Heap.lt_size e) I.ok.above)
  have neC : ∀ b o, X.s₀.heap.get? b = some o → b ∉ X.ex → b ∉ ch := fun b o e hx hb => by
    rcases (hch b hb).1 with z | z
    · exact hx z
    · exact absurd (Nat.lt_of_lt_of_le (Heap.lt_size e) z) (Nat.lt_irrefl _)
  have cellK : ∀ x c, X.env.cells.lookup x = some c → ∀ v, s.heap.IsCell c v → h'.IsCell c v := fun x c e v ⟨o, ho, hd⟩ => by
    have nch : c ∉ ch := fun z => (hch c z).2.2.1 x c e rfl
    by_cases hc : c ∈ X.fs
    · obtain ⟨sl, q⟩ := slot c o (I.cne x c e) hc nch ho (I.freeC x c e)
      exact ⟨_, q, hd⟩
    · exact ⟨o, keep c o (I.cne x c e) hc nch ho (I.freeC x c e), hd⟩
  refine ⟨I.ok, I.os, hg, ⟨fun b o e n hb hx => ?_, fun b o e n hb hx => ?_, fun b o e n hx => ?_, fun b o e hx => ?_, fun b xs e => tups b xs (I.base.tups b xs e), fun b o xs e => frzs b o xs (I.base.frzs b o xs e), fun b ps e => ?_⟩, ?_, fun x c e => ?_, ?_, fun x c e => ?_, fun p hp => ?_, hok, I.len⟩
  · exact keep b o (neL b o e) hb (neC b o e hx) (I.base.keep b o e n hb hx) (I.base.free b o e n hx)
  · obtain ⟨sl, e1⟩ := I.base.slot b o e n hb hx
    obtain ⟨sl', e2⟩ := slot b _ (neL b o e) hb (neC b o e hx) e1 (I.base.free b o e n hx)
    exact ⟨sl', e2⟩
  · obtain ⟨o', e1⟩ := I.base.there b o e hx
    exact free b o' (neC b o e hx) e1 (I.base.free b o e n hx)
  · obtain ⟨o', e1⟩ := I.base.there b o e hx
    exact there b o' (neC b o e hx) e1
  · obtain ⟨m1, e1⟩ := I.base.tbls b ps e
    obtain ⟨m2, e2⟩ := tbls b _ e1
    exact ⟨m1 ++ m2, by rw [e2, Array.append_assoc]⟩
  · obtain ⟨m, hn, hl⟩ := I.loc
    refine ⟨m, ns m hn, fun i x v e1 e2 e3 => ?_⟩
    obtain ⟨u, r, l⟩ := hl i x v e1 e2 e3
    refine ⟨u, r, ?_⟩
    rcases l with l | ⟨k, c, e, z⟩
    · exact .inl l
    · exact .inr ⟨k, c, e, cellK x c e _ z⟩
  · obtain ⟨v, z⟩ := I.cell x c e
    exact ⟨v, cellK x c e v z⟩
  · obtain ⟨m, ⟨o, _, _, ho, _⟩, _⟩ := I.loc
    exact free _ o (fun z => (hch _ z).2.1 rfl) ho I.free
  · obtain ⟨v, o, ho, hd⟩ := I.cell x c e
    exact free c o (fun z => (hch c z).2.2.1 x c e rfl) ho (I.freeC x c e)
  · obtain ⟨e, n, ne, nf, d⟩ := I.pin p hp
    have nch : p.1 ∉ ch := fun z => (hch p.1 z).2.2.2 p hp rfl
    exact ⟨keep p.1 p.2 ne nf nch e n, free p.1 p.2 nch e n, ne, nf, d⟩
theorem Inv.un {t' : Nat} (I : Inv X pins σ H s) (u : Un X.fs [] H H' s.heap h') (hok : HOk X.prog X.w H' h') : Inv X pins σ H' { s with heap := h', toks := t' } := by
  obtain ⟨m, ⟨o, es, ep, ho, r⟩, _⟩ := id I.loc
  obtain ⟨sl, hL⟩ := u.any ho I.free (by simp)
  exact I.step (g' := s.gens) (d' := s.drawn) (ch := []) (fun _ z => nomatch z) (fun b o _ hb _ e n => u.keep b o e n hb (by simp)) (fun b o _ hb _ e n => u.slot b o e n hb (by simp)) (fun b o _ e n => u.free b o e n (by simp)) (fun b o _ e => u.there b o e (by simp)) u.tups u.frzs u.tbls (fun m' hm => by
    obtain ⟨o', es', ep', ho', r'⟩ := hm
    rw [ho] at ho'; cases ho'
    exact ⟨_, es', ep', hL, r'⟩) hok I.bare
theorem Inv.call {g' : Array GenState} {t' : Nat} {d' : Drawn} {ch : List Addr} (I : Inv X pins σ H s) (u : Un (frs X.stack) ch H H' s.heap h') (hok : HOk X.prog X.w H' h') (hg : AllBare g')
    (hch : ∀ b ∈ ch, (b ∈ X.ex ∨ X.s₀.heap.objs.size ≤ b) ∧ b ≠ X.env.locals ∧ (∀ x c, X.env.cells.lookup x = some c → c ≠ b) ∧ ∀ p ∈ X.pn ++ pins, p.1 ≠ b) :
    Inv X pins σ H' { s with heap := h', gens := g', drawn := d', toks := t' } := by
  obtain ⟨m, ⟨o, es, ep, ho, r⟩, _⟩ := id I.loc
  obtain ⟨sl, hL⟩ := u.any ho I.free fun z => (hch _ z).2.1 rfl
  exact I.step (ch := ch) hch (fun b o hL hb hc e n => u.keep b o e n (fun z => (List.mem_cons.mp (I.stkSub b z)).elim hL hb) hc) (fun b o _ _ hc e n => u.any e n hc) (fun b o hc e n => u.free b o e n hc) (fun b o hc e => u.there b o e hc) u.tups u.frzs u.tbls (fun m' hm => by
    obtain ⟨o', es', ep', ho', r'⟩ := hm
    rw [ho] at ho'; cases ho'
    exact ⟨_, es', ep', hL, r'⟩) hok hg
theorem Inv.turned {t' : Nat} {it : Addr} (I : Inv X pins σ H s) (k : ∀ b o, b ≠ it → s.heap.get? b = some o → h'.get? b = some o) (hn : H it = none) (hL : it ≠ X.env.locals)
    (h1 : it ∈ X.ex ∨ X.s₀.heap.objs.size ≤ it) (h2 : ∀ x c, X.env.cells.lookup x = some c → c ≠ it) (h3 : ∀ p ∈ X.pn ++ pins, p.1 ≠ it) : Inv X pins σ H { s with heap := h', toks := t' } := by
  have nit : ∀ b u, H b = some u → b ≠ it := fun b u e z => by rw [z, hn] at e; cases e
  refine I.step (g' := s.gens) (d' := s.drawn) (ch := [it]) (fun b hb => ?_) (fun b o _ _ hc e _ => k b o (fun z => hc (by simp [z])) e) (fun b o _ _ hc e _ => ⟨o.slots, k b o (fun z => hc (by simp [z])) e⟩) (fun _ _ _ _ n => n)
    (fun b o hc e => ⟨o, k b o (fun z => hc (by simp [z])) e⟩) (fun _ _ e => e) (fun _ _ _ e => e) (fun b ps e => ⟨#[], by rw [e]; simp⟩) (fun m hm => ?_) (fun b u e => ?_) I.bare
  · have e : b = it := by simpa using hb
    subst e
    exact ⟨h1, hL, h2, h3⟩
  · obtain ⟨o, es, ep, ho, r⟩ := hm
    exact ⟨o, es, ep, k _ o (Ne.symm hL) ho, r⟩
  · refine (I.hok b u e).stay (fun c v hc q => k c v ?_ q) (fun _ q => q) fun _ _ q => q
    rcases hc with z | z
    · rw [z]; exact nit b u e
    · exact nit c _ z
theorem Inv.tok (I : Inv X pins σ H s) (t : Nat) : Inv X pins σ H { s with toks := t } := I.un (h' := s.heap) (t' := t) Un.refl I.hok
theorem Inv.kept {t' : Nat} (I : Inv X pins σ H s) (k : ∀ b u, s.heap.get? b = some u → h'.get? b = some u) : Inv X pins σ H { s with heap := h', toks := t' } := I.un (Un.kept k) (I.hok.kept k)
theorem Inv.laid {a : Addr} {o : HO} {t' : Nat} (I : Inv X pins σ H s) (k : ∀ b u, s.heap.get? b = some u → h'.get? b = some u) (hp : s.heap.objs.size ≤ a) (new : ObjOk X.prog X.w (upd H a o) h' a o) :
    Inv X pins σ (upd H a o) { s with heap := h', toks := t' } := I.un (Un.laid k hp (I.hok.fresh hp)) (I.hok.laid k hp new)
theorem Inv.write {x e : Addr} {o : HO} {t' : Nat} (I : Inv X pins σ H s) (mu : Mut (H x)) (he : e = x ∨ H e = some (.own x)) (k : ∀ b u, b ≠ e → s.heap.get? b = some u → h'.get? b = some u) (heo : ∃ u, h'.get? e = some u)
    (new : ObjOk X.prog X.w (upd H x o) h' x o) : Inv X pins σ (upd H x o) { s with heap := h', toks := t' } := I.un (Un.write mu he k heo) (I.hok.write mu he k heo new)
theorem Inv.pins_of {pins' : List (Addr × Obj)} (I : Inv X pins σ H s) (h : ∀ p ∈ pins', s.heap.get? p.1 = some p.2 ∧ H p.1 = none ∧ p.1 ≠ X.env.locals ∧ p.1 ∉ X.fs ∧ ∀ v, p.2.data ≠ .cell v) : Inv X pins' σ H s :=
  ⟨I.ok, I.os, I.bare, I.base, I.loc, I.cell, I.free, I.freeC, fun p hp => (List.mem_append.mp hp).elim (fun z => I.pin p (List.mem_append_left _ z)) (h p), I.hok, I.len⟩
theorem nodup_ix {N : List Str} (hN : N.Nodup) {i j : Nat} {x : Str} (a : N[i]? = some x) (b : N[j]? = some x) : i = j := by
  obtain ⟨h1, e1⟩ := List.getElem?_eq_some_iff.mp a
  obtain ⟨h2, e2⟩ := List.getElem?_eq_some_iff.mp b
  exact (List.getElem_inj hN).mp (e1.trans e2.symm)
theorem store_ok2 {M : Model} {A : Around} {E : Value → Shared → Prop} {i : Nat} {x : Str} {v : V} {u : Value} {Q : Unit → Shared → Prop} (I : Inv X pins σ H s) (hN : X.N.Nodup) (hi : X.N[i]? = some x) (hx : Loc X.env.scope x) (r : RelV v u)
    (h : ∀ s', Inv X pins (σ.set i (some v)) H s' → (∃ a, Heap.SameBut a s.heap s'.heap ∧ (a = X.env.locals ∨ X.env.cells.lookup x = some a)) → Q () s') (hf : X.fn x = true ∨ X.env.scope.names.lookup x = some .local := by first | exact .inl rfl | exact .inr rfl | assumption) : wpAny M A (storeName X.env x u) Q E s := by
  obtain ⟨m, hn, hl⟩ := id I.loc
  have hcls : (X.env.scope.kind == .class || (X.env.scope.kind == .module && X.env.locals != X.env.globals)) = false := by rw [I.ok.kind]; rfl
  have hiσ : i < σ.length := by rw [I.len]; exact (List.getElem?_eq_some_iff.mp hi).1
  have cne := I.cne
  have tracked : ∀ {a : Addr} {h' : Heap}, (∃ o, s.heap.get? a = some o ∧ H a = none) → Heap.SameBut a s.heap h' → HOk X.prog X.w H h' := fun {a h'} ha hs b ob e => by
    obtain ⟨_, _, hfree⟩ := ha
    refine (I.hok b ob e).stay (fun c w' hc q => (hs.2 c ?_).trans q) (fun _ q => q) fun _ _ q => q
    rintro rfl
    rcases hc with rfl | hc
    · rw [hfree] at e; cases e
    · rw [hfree] at hc; cases hc
  rcases hx with hk | hk
  · refine wpAny_storeName_local hk hn (fun h' hn' hs => ?_) hcls
    obtain ⟨oL, _, _, hoL, _⟩ := id hn
    refine h _ ⟨I.ok, I.os, I.bare, ⟨fun b o e n hb hx => ?_, fun b o e n hb hx => ?_, I.base.free, fun b o e hx => ?_, I.base.tups, I.base.frzs, I.base.tbls⟩, ⟨_, hn', fun j y v' e1 e2 e3 => ?_⟩, fun y c e => ?_, I.free, I.freeC, fun p hp => ?_, tracked ⟨oL, hoL, I.free⟩ hs, by simpa using I.len⟩ ⟨_, hs, .inl rfl⟩
    · exact (hs.2 b (Nat.ne_of_lt (Nat.lt_of_lt_of_le (Heap.lt_size e) I.ok.above))).trans (I.base.keep b o e n hb hx)
    · obtain ⟨sl, e1⟩ := I.base.slot b o e n hb hx
      exact ⟨sl, (hs.2 b (Nat.ne_of_lt (Nat.lt_of_lt_of_le (Heap.lt_size e) I.ok.above))).trans e1⟩
    · obtain ⟨o', e1⟩ := I.base.there b o e hx
      exact ⟨o', (hs.2 b (Nat.ne_of_lt (Nat.lt_of_lt_of_le (Heap.lt_size e) I.ok.above))).trans e1⟩
    · by_cases hj : j = i
      · subst hj
        rw [hi] at e1; cases e1
        rw [List.getElem?_set_self hiσ] at e2
        cases e2
        exact ⟨u, r, .inl ⟨hk, by simp⟩⟩
      · rw [List.getElem?_set_ne (Ne.symm hj)] at e2
        obtain ⟨u', r', q⟩ := hl j y v' e1 e2 e3
        refine ⟨u', r', ?_⟩
        rcases q with ⟨k, e⟩ | ⟨k, c, e, z⟩
        · refine .inl ⟨k, ?_⟩
          have : y ≠ x := fun e => hj (nodup_ix hN e1 (e ▸ hi))
          simp [this, e]
        · exact .inr ⟨k, c, e, z.sameBut hs (cne y c e)⟩
    · obtain ⟨w', z⟩ := I.cell y c e
      exact ⟨w', z.sameBut hs (cne y c e)⟩
    · obtain ⟨e, n, ne, nf, d⟩ := I.pin p hp
      exact ⟨(hs.2 p.1 ne).trans e, n, ne, nf, d⟩
  · have hfn : X.fn x = true := by
      rcases hf with z | z
      · exact z
      · rw [z] at hk; cases hk
    obtain ⟨c, hc⟩ := I.ok.has x (.inl hk)
    obtain ⟨w', z⟩ := I.cell x c hc
    refine wpAny_storeName_cell I.ok.kind hk hc z (fun h' hc' hs => ?_)
    obtain ⟨oc, hoc, hocd⟩ := id z
    refine h { s with heap := h' } ⟨I.ok, I.os, I.bare, ⟨fun b o e n hb hx => ?_, fun b o e n hb hx => ?_, I.base.free, fun b o e hx => ?_, I.base.tups, I.base.frzs, I.base.tbls⟩, ⟨m, hn.sameBut hs (Ne.symm (cne x c hc)), fun j y v' e1 e2 e3 => ?_⟩, fun y c' e => ?_, I.free, I.freeC, fun p hp => ?_, tracked ⟨oc, hoc, I.freeC x c hc⟩ hs, by simpa using I.len⟩ ⟨c, hs, .inr hc⟩
    · exact (hs.2 b (Nat.ne_of_lt (Nat.lt_of_lt_of_le (Heap.lt_size e) (I.ok.cab x c hfn hc)))).trans (I.base.keep b o e n hb hx)
    · obtain ⟨sl, e1⟩ := I.base.slot b o e n hb hx
      exact ⟨sl, (hs.2 b (Nat.ne_of_lt (Nat.lt_of_lt_of_le (Heap.lt_size e) (I.ok.cab x c hfn hc)))).trans e1⟩
    · obtain ⟨o', e1⟩ := I.base.there b o e hx
      exact ⟨o', (hs.2 b (Nat.ne_of_lt (Nat.lt_of_lt_of_le (Heap.lt_size e) (I.ok.cab x c hfn hc)))).trans e1⟩
    · by_cases hj : j = i
      · subst hj
        rw [hi] at e1; cases e1
        rw [List.getElem?_set_self hiσ] at e2
        cases e2
        exact ⟨u, r, .inr ⟨.inl hk, c, hc, hc'⟩⟩
      · rw [List.getElem?_set_ne (Ne.symm hj)] at e2
        obtain ⟨u', r', q⟩ := hl j y v' e1 e2 e3
        refine ⟨u', r', ?_⟩
        rcases q with q | ⟨k, c', e, z'⟩
        · exact .inl q
        · refine .inr ⟨k, c', e, z'.sameBut hs ?_⟩
          rintro rfl
          exact hj (nodup_ix hN e1 (I.ok.inj _ _ _ e hc ▸ hi))
    · by_cases hcc : c' = c
      · subst hcc; exact ⟨_, hc'⟩
      · obtain ⟨w2, z2⟩ := I.cell y c' e
        exact ⟨w2, z2.sameBut hs hcc⟩
    · obtain ⟨e, n, ne, nf, d⟩ := I.pin p hp
      refine ⟨(hs.2 p.1 ?_).trans e, n, ne, nf, d⟩
      intro q
      rw [q, hoc] at e
      have q' : oc = p.2 := Option.some.inj e
      exact d w' (by rw [← q']; exact hocd)
theorem store_ok {M : Model} {A : Around} {E : Value → Shared → Prop} {i : Nat} {x : Str} {v : V} {u : Value} {Q : Unit → Shared → Prop} (I : Inv X pins σ H s) (hN : X.N.Nodup) (hi : X.N[i]? = some x) (hx : Loc X.env.scope x) (r : RelV v u)
    (h : ∀ s', Inv X pins (σ.set i (some v)) H s' → Q () s') (hf : X.fn x = true ∨ X.env.scope.names.lookup x = some .local := by first | exact .inl rfl | exact .inr rfl | assumption) : wpAny M A (storeName X.env x u) Q E s :=
  store_ok2 I hN hi hx r (fun s' I' _ => h s' I') hf
theorem Inv.call' {s' : Shared} {ch : List Addr} (I : Inv X pins σ H s) (ho : s'.os = s.os) (u : Un (frs X.stack) ch H H' s.heap s'.heap) (hok : HOk X.prog X.w H' s'.heap) (hg : AllBare s'.gens)
    (hch : ∀ b ∈ ch, (b ∈ X.ex ∨ X.s₀.heap.objs.size ≤ b) ∧ b ≠ X.env.locals ∧ (∀ x c, X.env.cells.lookup x = some c → c ≠ b) ∧ ∀ p ∈ X.pn ++ pins, p.1 ≠ b) : Inv X pins σ H' s' := by
  obtain ⟨h', g', d', t', o'⟩ := s'
  have e : o' = s.os := ho
  subst e
  exact I.call (g' := g') (t' := t') (d' := d') u hok hg hch
end
abbrev XK := Value → Option Addr → Hp → Prop
abbrev St := List (Option V)
abbrev VK := V → Hp → Prop
abbrev TE := St → Hp → VK → Prop
abbrev TT := St → Hp → (Bool → Hp → Prop) → Prop
abbrev TA := St → Hp → (List V → Hp → Prop) → Prop
structure Ends where
  nx : St → Hp → Prop
  rt : VK
  bk : St → Hp → Prop := fun _ _ => False
  ct : St → Hp → Prop := fun _ _ => False
abbrev TS := Ends → St → Hp → Prop
def EP (X : Cx) (pins : List (Addr × Obj)) (σ : St) (Q : VK) (u : Value) (s' : Shared) : Prop := ∃ v H', Inv X pins σ H' s' ∧ RelV v u ∧ Q v H'
def TP (X : Cx) (pins : List (Addr × Obj)) (σ : St) (Q : Bool → Hp → Prop) (b : Bool) (s' : Shared) : Prop := ∃ H', Inv X pins σ H' s' ∧ Q b H'
def AP (X : Cx) (pins : List (Addr × Obj)) (σ : St) (Q : List V → Hp → Prop) (us : List Value) (s' : Shared) : Prop := ∃ vs H', Inv X pins σ H' s' ∧ Vals vs us ∧ Q vs H'
def SP (X : Cx) (pins : List (Addr × Obj)) (D : Ends) (f : Flow) (s' : Shared) : Prop :=
  match f with
  | .next => ∃ σ' H', Inv X pins σ' H' s' ∧ D.nx σ' H'
  | .brk => ∃ σ' H', Inv X pins σ' H' s' ∧ D.bk σ' H'
  | .cont => ∃ σ' H', Inv X pins σ' H' s' ∧ D.ct σ' H'
  | .ret u => ∃ v σ' H', Inv X pins σ' H' s' ∧ RelV v u ∧ D.rt v H'
def PE (X : Cx) (e : Expr) (t : TE) : Prop :=
  ∀ (pins : List (Addr × Obj)) (s : Shared) (σ : St) (H : Hp) (Q : VK), Inv X pins σ H s → t σ H Q → wpAny (model X.prog X.w) X.A (eval e X.env) (EP X pins σ Q) X.xe s
def PT (X : Cx) (e : Expr) (t : TT) : Prop :=
  ∀ (pins : List (Addr × Obj)) (s : Shared) (σ : St) (H : Hp) (Q : Bool → Hp → Prop), Inv X pins σ H s → t σ H Q → wpAny (model X.prog X.w) X.A (isTrue e X.env (eval e X.env)) (TP X pins σ Q) X.xe s
def PW (X : Cx) (e : Expr) (t : TT) : Prop :=
  ∀ (whole : Sem Value) (pins : List (Addr × Obj)) (s : Shared) (σ : St) (H : Hp) (Q : Bool → Hp → Prop), Inv X pins σ H s → t σ H Q → wpAny (model X.prog X.w) X.A (isTrue e X.env whole) (TP X pins σ Q) X.xe s
theorem PW.pt {X : Cx} {e : Expr} {t : TT} (h : PW X e t) : PT X e t := h _
def PA (X : Cx) (es : List Expr) (t : TA) : Prop :=
  ∀ (pos : Pos) (pins : List (Addr × Obj)) (s : Shared) (σ : St) (H : Hp) (Q : List V → Hp → Prop), Inv X pins σ H s → t σ H Q → wpAny (model X.prog X.w) X.A (spliced (backTo pos (starEach es X.env))) (AP X pins σ Q) X.xe s
def PS (X : Cx) (st : Stmt) (t : TS) : Prop :=
  ∀ (pins : List (Addr × Obj)) (s : Shared) (σ : St) (H : Hp) (D : Ends), Inv X pins σ H s → t D σ H → wpAny (model X.prog X.w) X.A (exec st X.env) (SP X pins D) X.xe s
def PSs (X : Cx) (st : List Stmt) (t : TS) : Prop :=
  ∀ (pins : List (Addr × Obj)) (s : Shared) (σ : St) (H : Hp) (D : Ends), Inv X pins σ H s → t D σ H → wpAny (model X.prog X.w) X.A (execs st X.env) (SP X pins D) X.xe s
theorem thn {α : Type} {t : Sem α} {Q Q' : α → Shared → Prop} {M : Model} {A : Around} {E : Value → Shared → Prop} {s : Shared} (h : wpAny M A t Q E s) (hQ : ∀ a s, Q a s → Q' a s) : wpAny M A t Q' E s := wpAny_mono h hQ fun _ _ x => x
end L2
namespace L2
open PySem PySem.Spec PyProof.Rows
section
variable {X : Cx}
theorem bin {a b : Expr} {ta tb : TE} (ha : PE X a ta) (hb : PE X b tb) {pins : List (Addr × Obj)} {s : Shared} {σ : St} {H : Hp} {R : V → V → Hp → Prop} (I : Inv X pins σ H s) (h : ta σ H fun x H1 => tb σ H1 fun y H2 => R x y H2)
    {α : Type} {Q : α → Shared → Prop} {f : Value → Value → Sem α}
    (hf : ∀ v u s2 x y H2, Inv X pins σ H2 s2 → RelV x v → RelV y u → R x y H2 → wpAny (model X.prog X.w) X.A (f v u) Q X.xe s2) :
    wpAny (model X.prog X.w) X.A (eval a X.env) (fun v s₁ => wpAny (model X.prog X.w) X.A (eval b X.env) (fun u s₂ => wpAny (model X.prog X.w) X.A (f v u) Q X.xe s₂) X.xe s₁) X.xe s := by
  refine thn (ha pins s σ H _ I h) fun v s1 ⟨x, H1, I1, r1, q1⟩ => ?_
  refine thn (hb pins s1 σ H1 _ I1 q1) fun u s2 ⟨y, H2, I2, r2, q2⟩ => ?_
  exact hf v u s2 x y H2 I2 r1 r2 q2
def tVar (i : Nat) : TE := fun σ H Q => ∃ v, σ[i]? = some (some v) ∧ Q v H
def tC (v : V) : TE := fun _ H Q => Q v H
theorem pe_var {i : Nat} {x : Str} {pos : Pos} (hN : X.N[i]? = some x) (hv : Vis X.env.scope x) (hd : (x == ("__debug__" : Str)) = false := by decide) (hcd : (x == ("__classdict__" : Str)) = false := by decide) : PE X (.Name x pos) (tVar i) := by
  intro pins s σ H Q I h
  obtain ⟨v, e, h⟩ := h
  obtain ⟨m, hn, hl⟩ := I.loc
  obtain ⟨u, r, l⟩ := hl i x v hN e hv
  have fin : EP X pins σ Q u s := ⟨v, H, I, r, h⟩
  rcases l with ⟨hk, hm⟩ | ⟨hk, c, hc, hcell⟩
  · exact wpAny_Name (wpAny_loadName_local I.ok.kind hk hn hm fin) hd
  · rcases hk with hk | hk
    · exact wpAny_Name (wpAny_loadName_cell I.ok.kind hk hc hcell fin) hd
    · exact wpAny_Name (wpAny_loadName_free I.ok.kind hk hc hcell fin hcd) hd
theorem pe_int {i j pos} : PE X (.Constant (.int i) j pos) (tC (.int i)) := fun _ _ _ H _ I h => wpAny_Constant_int ⟨.int i, H, I.tok _, ⟨_, rfl⟩, h⟩
theorem pe_bl {b j pos} : PE X (.Constant (.bool b) j pos) (tC (.bl b)) := fun _ _ _ H _ I h => Constant_bool ⟨.bl b, H, I, rfl, h⟩
def Gl (X : Cx) (x : Str) : Prop := X.env.kindOf x = some .globalImplicit
theorem ld_glob {E : Value → Shared → Prop} {pins : List (Addr × Obj)} {s : Shared} {σ : St} {H : Hp} {x : Str} {u : Value} {pos : Pos} {Q : Value → Shared → Prop} (I : Inv X pins σ H s) (hg : Gl X x) (hm : X.mg x = some u) (h : Q u s)
    (hd : (x == ("__debug__" : Str)) = false := by decide) : wpAny (model X.prog X.w) X.A (eval (.Name x pos) X.env) Q E s :=
  Calls.Name_function_global I.ok.kind hg (Calls.loadGlobal_global (by rw [I.ok.glob]; exact I.mod.glob.keeps I.bk) hm h) hd
theorem ld_blt {E : Value → Shared → Prop} {pins : List (Addr × Obj)} {s : Shared} {σ : St} {H : Hp} {x : Str} {u : Value} {pos : Pos} {Q : Value → Shared → Prop} (I : Inv X pins σ H s) (hg : Gl X x) (hm : X.mg x = none) (hv : bootBuiltins x = some u) (h : Q u s)
    (hn : x ≠ "__name__" := by decide) (hd : (x == ("__debug__" : Str)) = false := by decide) : wpAny (model X.prog X.w) X.A (eval (.Name x pos) X.env) Q E s := by
  obtain ⟨mb, h1, h2⟩ := I.mod.blt
  exact Calls.Name_function_global I.ok.kind hg (Calls.loadGlobal_builtin (by rw [I.ok.glob]; exact I.mod.glob.keeps I.bk) hm (by rw [I.ok.blt]; exact h1.keeps I.bk) ((h2 x hn).trans hv) h) hd
theorem pe_bltn {x : Str} {v : V} {u : Value} {pos : Pos} (hg : Gl X x) (hm : X.mg x = none) (hv : bootBuiltins x = some u) (r : RelV v u) (hn : x ≠ "__name__" := by decide) (hd : (x == ("__debug__" : Str)) = false := by decide) : PE X (.Name x pos) (tC v) :=
  fun _ _ _ H _ I h => ld_blt I hg hm hv ⟨v, H, I, r, h⟩ hn hd
variable {a b : Expr} {ta tb : TE} {pos : Pos}
variable {tA tB' : TT} {rest : List Expr}
def tOr (t u : TT) : TT := fun σ H Q => t σ H fun c H1 => if c = true then Q true H1 else u σ H1 Q
def tNot (t : TT) : TT := fun σ H Q => t σ H fun c H1 => Q (!c) H1
theorem pw_or1 (ha : PT X a tA) : PW X (.BoolOp .Or [a] pos) tA := by
  intro wh pins s σ H Q I h
  refine isTrue_or (thn (ha pins s σ H Q I h) fun c s1 e => ?_)
  cases c with
  | false => exact isTrue_or_nil e
  | true => exact e
theorem pw_or (ha : PT X a tA) (hb : PW X (.BoolOp .Or (b :: rest) pos) tB') : PW X (.BoolOp .Or (a :: b :: rest) pos) (tOr tA tB') := by
  intro wh pins s σ H Q I h
  refine isTrue_or (thn (ha pins s σ H _ I h) fun c s1 ⟨H1, I1, q1⟩ => ?_)
  cases c with
  | true => exact ⟨H1, I1, q1⟩
  | false => exact hb wh pins s1 σ H1 Q I1 q1
theorem pt_not (ha : PT X a tA) : PT X (.UnaryOp .Not a pos) (tNot tA) := by
  intro pins s σ H Q I h
  exact isTrue_not (ha pins s σ H (fun c H1 => Q (!c) H1) I h)
end
end L2
namespace L2
open PySem PySem.Spec PyProof.Rows
def SqL (K : PySem.W.Frag) (H : Hp) (a : Addr) (xs : List V) : Prop :=
  Rd H a (.lst xs) ∨
    ∃ (o : Obj) (its : Array Value) (n : Nat), K.lookup a = some o ∧ o.cls = .type "list" ∧ o.dict = none ∧ o.data = .seq its n ∧ its.size ≤ sizeLine ∧ Vals xs its.toList
def SqT (K : PySem.W.Frag) (H : Hp) (a : Addr) (xs : List V) : Prop :=
  Rd H a (.tup xs) ∨
    ∃ (o : Obj) (its : Array Value) (n : Nat), K.lookup a = some o ∧ o.cls = .type "tuple" ∧ o.data = .seq its n ∧ its.size ≤ sizeLine ∧ Vals xs its.toList
def absV : Value → Option V
  | .none => some .non
  | .bool b => some (.bl b)
  | .int i _ => some (.int i)
  | .str x _ => some (.str x)
  | .bytes b _ => some (.byt b)
  | .float b _ => some (.flt b)
  | .ref a => some (.ref a)
  | .type n => some (.ty n)
  | _ => none
theorem RelV.abs {x : V} {u : Value} (r : RelV x u) : absV u = some x := by
  cases x with
  | non => cases r; rfl
  | bl _ => cases r; rfl
  | int _ => obtain ⟨t, rfl⟩ := r; rfl
  | str _ => obtain ⟨t, rfl⟩ := r; rfl
  | byt _ => obtain ⟨t, rfl⟩ := r; rfl
  | flt _ => obtain ⟨t, rfl⟩ := r; rfl
  | ref _ => cases r; rfl
  | ty _ => cases r; rfl
theorem RelV.inj {x y : V} {u : Value} (r : RelV x u) (q : RelV y u) : x = y := Option.some.inj (r.abs.symm.trans q.abs)
theorem Vals.inj : ∀ {xs ys : List V} {us : List Value}, Vals xs us → Vals ys us → xs = ys
  | _, _, _, .nil, .nil => rfl
  | _, _, _, .cons r t, .cons r' t' => by rw [r.inj r', Vals.inj t t']
section
variable {X : Cx} {pins : List (Addr × Obj)} {σ : St} {H : Hp} {s : Shared} {a : Addr} {xs ys : List V}
theorem SqL.of {K : PySem.W.Frag} (h : H a = some (.lst xs)) : SqL K H a xs := .inl (.inl h)
theorem SqT.of {K : PySem.W.Frag} (h : H a = some (.tup xs)) : SqT K H a xs := .inl (.inl h)
theorem Inv.list (I : Inv X pins σ H s) (h : SqL X.K H a xs) : ∃ its : List Value, Vals xs its ∧ PlainL s.heap a its.toArray ∧ xs.length ≤ sizeLine := by
  rcases h with h | ⟨o, its, n, hk, hc, hd, hs, hz, r⟩
  · obtain ⟨z, its, n, r, e⟩ := h.ok I.hok
    exact ⟨its, r, ⟨_, n, e, rfl, rfl, rfl⟩, z⟩
  · refine ⟨its.toList, r, ⟨o, n, I.kIn a o hk, hc, hd, by simpa using hs⟩, ?_⟩
    have e := r.length
    simp only [Array.length_toList] at e
    omega
theorem Inv.tuple (I : Inv X pins σ H s) (h : SqT X.K H a xs) : ∃ its : List Value, Vals xs its ∧ IsTup s.heap a its.toArray ∧ xs.length ≤ sizeLine := by
  rcases h with h | ⟨o, its, n, hk, hc, hs, hz, r⟩
  · obtain ⟨z, its, r, p⟩ := h.ok I.hok
    exact ⟨its, r, p, z⟩
  · refine ⟨its.toList, r, ⟨o, I.kIn a o hk, hc, n, by simpa using hs⟩, ?_⟩
    have e := r.length
    simp only [Array.length_toList] at e
    omega
theorem Inv.list_inj (I : Inv X pins σ H s) (h : SqL X.K H a xs) (h' : SqL X.K H a ys) : xs = ys := by
  obtain ⟨its, r, ⟨o, n, e, _, _, d⟩, _⟩ := I.list h
  obtain ⟨its', r', ⟨o', n', e', _, _, d'⟩, _⟩ := I.list h'
  rw [e] at e'; cases e'
  rw [d] at d'
  injection d' with d1 _
  have : its = its' := by simpa using congrArg Array.toList d1
  subst this
  exact r.inj r'
theorem Inv.tuple_inj (I : Inv X pins σ H s) (h : SqT X.K H a xs) (h' : SqT X.K H a ys) : xs = ys := by
  obtain ⟨its, r, ⟨o, e, _, n, d⟩, _⟩ := I.tuple h
  obtain ⟨its', r', ⟨o', e', _, n', d'⟩, _⟩ := I.tuple h'
  rw [e] at e'; cases e'
  rw [d] at d'
  injection d' with d1 _
  have : its = its' := by simpa using congrArg Array.toList d1
  subst this
  exact r.inj r'
end
abbrev Cx.wish (X : Cx) (E : Value → Shared → Prop) : Cx := { X with xe := E }
abbrev Cx.nox (X : Cx) : Cx := X.wish fun _ _ => False
theorem Cx.Ok.wish {X : Cx} (ok : X.Ok) (E : Value → Shared → Prop) : (X.wish E).Ok :=
  ⟨ok.mod, ok.kind, ok.glob, ok.blt, ok.above, ok.inj, ok.has, ok.cab, ok.hd, ok.frames, ok.stk, ok.exf, ok.bs, ok.bsz, ok.noex, ok.exfs, ok.funs, ok.frf⟩
theorem Cx.Ok.unwish {X : Cx} {E : Value → Shared → Prop} (ok : (X.wish E).Ok) : X.Ok :=
  ⟨ok.mod, ok.kind, ok.glob, ok.blt, ok.above, ok.inj, ok.has, ok.cab, ok.hd, ok.frames, ok.stk, ok.exf, ok.bs, ok.bsz, ok.noex, ok.exfs, ok.funs, ok.frf⟩
section
variable {X : Cx} {pins : List (Addr × Obj)} {σ : St} {H : Hp} {s : Shared} {E : Value → Shared → Prop}
theorem Inv.wish (I : Inv X pins σ H s) (E : Value → Shared → Prop) : Inv (X.wish E) pins σ H s := ⟨I.ok.wish E, I.os, I.bare, I.base, I.loc, I.cell, I.free, I.freeC, I.pin, I.hok, I.len⟩
theorem Inv.unwish (I : Inv (X.wish E) pins σ H s) : Inv X pins σ H s := ⟨I.ok.unwish, I.os, I.bare, I.base, I.loc, I.cell, I.free, I.freeC, I.pin, I.hok, I.len⟩
theorem SP.unwish {D : Ends} {f : Flow} {s' : Shared} (h : SP (X.wish E) pins D f s') : SP X pins D f s' := by
  cases f with
  | next => obtain ⟨σ', H', I, q⟩ := h; exact ⟨σ', H', I.unwish, q⟩
  | brk => obtain ⟨σ', H', I, q⟩ := h; exact ⟨σ', H', I.unwish, q⟩
  | cont => obtain ⟨σ', H', I, q⟩ := h; exact ⟨σ', H', I.unwish, q⟩
  | ret u => obtain ⟨v, σ', H', I, r, q⟩ := h; exact ⟨v, σ', H', I.unwish, r, q⟩
theorem PE.nox {e : Expr} {t : TE} (h : PE X.nox e t) : PE X e t := fun pins s σ H Q I hw =>
  wpAny_mono (h pins s σ H Q (I.wish _) hw) (fun _ _ ⟨v, H', I', r, q⟩ => ⟨v, H', I'.unwish, r, q⟩) fun _ _ z => False.elim z
theorem PT.nox {e : Expr} {t : TT} (h : PT X.nox e t) : PT X e t := fun pins s σ H Q I hw =>
  wpAny_mono (h pins s σ H Q (I.wish _) hw) (fun _ _ ⟨H', I', q⟩ => ⟨H', I'.unwish, q⟩) fun _ _ z => False.elim z
theorem PSs.nox {st : List Stmt} {t : TS} (h : PSs X.nox st t) : PSs X st t := fun pins s σ H D I hw =>
  wpAny_mono (h pins s σ H D (I.wish _) hw) (fun _ _ q => q.unwish) fun _ _ z => False.elim z
end
section
variable {X : Cx} {st : Stmt} {rest : List Stmt} {t u : TS} {e : Expr} {te : TE} {pos : Pos}
def tNext : TS := fun D σ H => D.nx σ H
def tSeq (t u : TS) : TS := fun D σ H => t { D with nx := u D } σ H
theorem pss_nil : PSs X [] tNext := fun _ _ σ H _ I h => wpAny_execs_nil ⟨σ, H, I, h⟩
theorem pss_cons (h1 : PS X st t) (h2 : PSs X rest u) : PSs X (st :: rest) (tSeq t u) := by
  intro pins s σ H D I h
  refine wpAny_execs_cons (thn (h1 pins s σ H { D with nx := u D } I h) fun f s1 q => ?_)
  cases f with
  | next =>
    obtain ⟨σ', H', I', q⟩ := q
    exact h2 pins s1 σ' H' D I' q
  | ret v => exact q
  | brk => exact q
  | cont => exact q
theorem pss_one (h1 : PS X st t) : PSs X [st] t := by
  intro pins s σ H D I h
  refine wpAny_execs_cons (thn (h1 pins s σ H D I h) fun f s1 q => ?_)
  cases f with
  | next => exact wpAny_execs_nil q
  | ret v => exact q
  | brk => exact q
  | cont => exact q
theorem Inv.quiet {pins : List (Addr × Obj)} {σ : St} {H : Hp} {s : Shared} (I : Inv X pins σ H s) : interactive X.env = false := by simp [interactive, I.ok.kind]
def tDrop (te : TE) : TS := fun D σ H => te σ H fun _ H1 => D.nx σ H1
theorem ps_expr (he : PE X e te) (hs : swapsWith e none pos.line X.env = pure false := by rfl) : PS X (.Expr e pos) (tDrop te) := by
  intro pins s σ H D I h
  exact wpAny_Expr_any (thn (he pins s σ H _ I h) fun v s1 ⟨x, H1, I1, r1, q1⟩ => ⟨σ, H1, I1, q1⟩) I.quiet hs
def tRet (te : TE) : TS := fun D σ H => te σ H D.rt
theorem ps_ret (he : PE X e te) : PS X (.Return (some e) pos) (tRet te) := by
  intro pins s σ H D I h
  exact wpAny_Return_some (thn (he pins s σ H _ I h) fun v s1 ⟨x, H1, I1, r1, q1⟩ => ⟨x, σ, H1, I1, r1, q1⟩)
def tRetN : TS := fun D _ H => D.rt .non H
theorem ps_retN : PS X (.Return none pos) tRetN := fun _ _ σ H _ I h => wpAny_Return_none ⟨.non, σ, H, I, rfl, h⟩
def tIfS (c : TT) (t u : TS) : TS := fun D σ H => c σ H fun b H1 => if b = true then t D σ H1 else u D σ H1
theorem ps_if {c : Expr} {a b : List Stmt} {tc : TT} (hc : PT X c tc) (ha : PSs X a t) (hb : PSs X b u) : PS X (.If c a b pos) (tIfS tc t u) := by
  intro pins s σ H D I h
  refine wpAny_If (thn (hc pins s σ H _ I h) fun d s1 ⟨H1, I1, q1⟩ => ?_)
  cases d with
  | true => exact ha pins s1 σ H1 D I1 q1
  | false => exact hb pins s1 σ H1 D I1 q1
end
abbrev TG := V → St → Hp → (St → Hp → Prop) → Prop
abbrev TGs := List V → St → Hp → (St → Hp → Prop) → Prop
def PG (X : Cx) (target : Expr) (t : TG) : Prop :=
  ∀ (pins : List (Addr × Obj)) (s : Shared) (σ : St) (H : Hp) (v : V) (u : Value) (Q : St → Hp → Prop), Inv X pins σ H s → RelV v u → t v σ H Q →
    wpAny (model X.prog X.w) X.A (assign target X.env u) (fun _ s' => ∃ σ' H', Inv X pins σ' H' s' ∧ Q σ' H') X.xe s
def PGs (X : Cx) (ts : List Expr) (t : TGs) : Prop :=
  ∀ (pins : List (Addr × Obj)) (s : Shared) (σ : St) (H : Hp) (vs : List V) (us : List Value) (Q : St → Hp → Prop), Inv X pins σ H s → Vals vs us → t vs σ H Q →
    wpAny (model X.prog X.w) X.A (assignInOrder ((assignEach ts X.env).map (·.2)) us) (fun _ s' => ∃ σ' H', Inv X pins σ' H' s' ∧ Q σ' H') X.xe s
abbrev TSet := V → V → V → Hp → (Hp → Prop) → Prop
def PSet (X : Cx) (t : TSet) : Prop :=
  ∀ (pins : List (Addr × Obj)) (s : Shared) (σ : St) (H : Hp) (o i v : V) (ov iv u : Value) (Q : Hp → Prop), Inv X pins σ H s → RelV o ov → RelV i iv → RelV v u → t o i v H Q →
    wpAny (model X.prog X.w) X.A (setItem ov iv u) (fun _ s' => ∃ H', Inv X pins σ H' s' ∧ Q H') X.xe s
section
variable {X : Cx} {pos : Pos}
def gName (i : Nat) : TG := fun v σ H Q => Q (σ.set i (some v)) H
theorem pg_name {i : Nat} {x : Str} (hN : X.N.Nodup) (hi : X.N[i]? = some x) (hx : Loc X.env.scope x) (hf : X.fn x = true ∨ X.env.scope.names.lookup x = some .local := by first | exact .inl rfl | exact .inr rfl | assumption) : PG X (.Name x pos) (gName i) := by
  intro pins s σ H v u Q I r h
  exact wpAny_assign_Name (store_ok I hN hi hx r (fun s' I' => ⟨_, H, I', h⟩) hf)
def gNil : TGs := fun vs σ H Q => vs = [] ∧ Q σ H
def gCons (t : TG) (u : TGs) : TGs := fun vs σ H Q => ∃ v r, vs = v :: r ∧ t v σ H fun σ' H' => u r σ' H' Q
theorem pgs_nil : PGs X [] gNil := by
  intro pins s σ H vs us Q I r h
  obtain ⟨e, h⟩ := h
  subst e
  cases r
  exact assignInOrder_nil ⟨σ, H, I, h⟩
theorem pgs_cons {e : Expr} {es : List Expr} {t : TG} {u : TGs} (h1 : PG X e t) (h2 : PGs X es u)
    (hs : (assignEach (e :: es) X.env).map (·.2) = assign e X.env :: (assignEach es X.env).map (·.2) := by rfl) : PGs X (e :: es) (gCons t u) := by
  intro pins s σ H vs us Q I r h
  obtain ⟨v, vr, e1, h⟩ := h
  subst e1
  cases r with
  | cons r rr =>
    rw [hs]
    refine assignInOrder_cons (thn (h1 pins s σ H _ _ _ I r h) fun _ s1 ⟨σ1, H1, I1, q1⟩ => ?_)
    exact h2 pins s1 σ1 H1 _ _ Q I1 rr q1
def gTup (K : PySem.W.Frag) (n : Nat) (t : TGs) : TG := fun v σ H Q => ∃ a xs, v = .ref a ∧ SqT K H a xs ∧ xs.length = n ∧ t xs σ H Q
theorem pg_tup {es : List Expr} {k : Nat} {t : TGs} {n : Nat} (hc : X.calm = true) (h : PGs X es t)
    (hn : (assignEach es X.env).length = n := by rfl) (hst : (assignEach es X.env).findIdx? (·.1) = none := by rfl) : PG X (.Tuple es k pos) (gTup X.K n t) := by
  intro pins s σ H v u Q I r hw
  obtain ⟨a, xs, e1, hq, hl, hw⟩ := hw
  subst e1
  cases r
  obtain ⟨its, rv, ht, hz⟩ := I.tuple hq
  refine assign_Tuple_tuple (I.ok.hd hc) ht (by simp [hn, ← hl, rv.length]) hst fun h' hx => ?_
  have I1 : Inv X pins σ H { s with heap := h' } := I.kept (t' := s.toks) fun b o e => hx b o (Nat.ne_of_lt (Heap.lt_size e)) e
  exact h pins _ σ H xs _ Q I1 (by simpa using rv) hw
def gSub (to ti : TE) (t : TSet) : TG := fun v σ H Q => to σ H fun o H1 => ti σ H1 fun i H2 => t o i v H2 fun H3 => Q σ H3
theorem pg_sub {o i : Expr} {to ti : TE} {t : TSet} (ho : PE X o to) (hi : PE X i ti) (hs : PSet X t)
    (ha : ∀ v, assign (.Subscript o i pos) X.env v = (do
      let ov ← holding [v] (eval o X.env)
      let iv ← holding [v, ov] (eval i X.env)
      standAt pos
      holding [v, ov, iv] (setItem ov iv v)
      release [v, ov, iv] []) := by intro _; rfl) : PG X (.Subscript o i pos) (gSub to ti t) := by
  intro pins s σ H v u Q I r h
  rw [ha]
  refine wpAny_bind (wpAny_holding (thn (ho pins s σ H _ I h) fun ov s1 ⟨x, H1, I1, r1, q1⟩ => ?_))
  refine wpAny_bind (wpAny_holding (thn (hi pins s1 σ H1 _ I1 q1) fun iv s2 ⟨y, H2, I2, r2, q2⟩ => ?_))
  refine wpAny_bind (wpAny_standAt (wpAny_bind (wpAny_holding (thn (hs pins s2 σ H2 x y v ov iv u _ I2 r1 r2 r q2) fun _ s3 ⟨H3, I3, q3⟩ => ?_))))
  exact wpAny_release ⟨σ, H3, I3, q3⟩
def tAsg (te : TE) (g : TG) : TS := fun D σ H => te σ H fun x H1 => g x σ H1 D.nx
theorem ps_asg {tg e : Expr} {te : TE} {g : TG} (he : PE X e te) (hg : PG X tg g) (hs : swapsWithSole [tg] e pos.line X.env = pure false := by rfl) (hw : swappedStores [tg] e X.env = pure none := by rfl)
    (h1 : (assignEach [tg] X.env).map (·.2) = [assign tg X.env] := by rfl) : PS X (.Assign [tg] e pos) (tAsg te g) := by
  intro pins s σ H D I h
  refine wpAny_Assign_stores (thn (he pins s σ H _ I h) fun v s1 ⟨x, H1, I1, r1, q1⟩ => ?_) hs hw
  rw [h1]
  exact thn (hg pins s1 σ H1 x v _ I1 r1 q1) fun _ s2 q => q
theorem ps_set {i : Nat} {x : Str} {e : Expr} {te : TE} {pos' : Pos} (hN : X.N.Nodup) (hi : X.N[i]? = some x) (hx : Loc X.env.scope x) (he : PE X e te) (hs : swapsWith e (some (.Name x pos')) pos.line X.env = pure false := by rfl) (hf : X.fn x = true ∨ X.env.scope.names.lookup x = some .local := by first | exact .inl rfl | exact .inr rfl | assumption) :
    PS X (.Assign [.Name x pos'] e pos) (tAsg te (gName i)) := by
  intro pins s σ H D I h
  refine wpAny_Assign_Name (thn (he pins s σ H _ I h) fun v s1 ⟨y, H1, I1, r1, q1⟩ => ?_) hs
  exact store_ok I1 hN hi hx r1 (fun s2 I2 => ⟨_, H1, I2, q1⟩) hf
end
section
variable {X : Cx} {pos : Pos}
end
structure It where
  go : Nat → Hp → Prop
  yld : Nat → Hp → V → Hp → Prop
  stop : Nat → Hp → Prop
def FpOk (X : Cx) (pins : List (Addr × Obj)) (H : Hp) (b : Addr) : Prop :=
  H b = none ∧ b ≠ X.env.locals ∧ b ∉ X.fs ∧ (b ∈ X.ex ∨ X.s₀.heap.objs.size ≤ b) ∧ (∀ x c, X.env.cells.lookup x = some c → c ≠ b) ∧ ∀ p ∈ X.pn ++ pins, p.1 ≠ b
theorem Inv.fpOk {X : Cx} {pins : List (Addr × Obj)} {σ : St} {H H' : Hp} {s : Shared} {b : Addr} (I : Inv X pins σ H s) (hb : s.heap.objs.size ≤ b) (hn : H' b = none) : FpOk X pins H' b := by
  refine ⟨hn, Nat.ne_of_gt (Nat.lt_of_lt_of_le I.lt hb), I.nofs hb, .inr (Nat.le_trans I.sz hb), fun x c e z => ?_, fun p hp z => ?_⟩
  · obtain ⟨v, q⟩ := I.cell x c e
    exact absurd (Nat.lt_of_lt_of_le q.lt (by rw [z]; exact hb)) (Nat.lt_irrefl _)
  · exact absurd (Nat.lt_of_lt_of_le (Heap.lt_size (I.pin p hp).1) (by rw [z]; exact hb)) (Nat.lt_irrefl _)
structure Turn (P : Program) (w : World) (K : PySem.W.Frag) (tg : Expr) (J : It) (fp : List Addr) (it : Addr) (tn : Nat → Heap → Prop) : Prop where
  mem : it ∈ fp
  obj : ∀ i h, tn i h → ∀ b ∈ fp, ∃ o, h.get? b = some o ∧ ∀ v, o.data ≠ .cell v
  keep : ∀ i h h', tn i h → (∀ b ∈ fp, ∀ o, h.get? b = some o → h'.get? b = some o) → tn i h'
  item : ∀ (X : Cx), X.prog = P → X.w = w → X.K = K → X.calm = true → ∀ (i : Nat) (pins : List (Addr × Obj)) (s : Shared) (σ : St) (H : Hp) (E : Value → Shared → Prop), Inv X pins σ H s → (∀ b ∈ fp, FpOk X pins H b) → tn i s.heap → J.go i H →
    wpAny (model P w) X.A (pyNext (.ref it)) (fun r s1 => ∃ u, r = some u ∧
      wpAny (model P w) X.A (letOwnedTupleGo tg (.ref it) u) (fun _ s2 => ∃ x H', Inv X pins σ H' s2 ∧ RelV x u ∧ J.yld i H x H' ∧ tn (i + 1) s2.heap ∧ ∀ b ∈ fp, H' b = none) E s1) E s
  done : ∀ (X : Cx), X.prog = P → X.w = w → X.K = K → X.calm = true → ∀ (i : Nat) (pins : List (Addr × Obj)) (s : Shared) (σ : St) (H : Hp) (E : Value → Shared → Prop), Inv X pins σ H s → (∀ b ∈ fp, FpOk X pins H b) → tn i s.heap → J.stop i H →
    wpAny (model P w) X.A (pyNext (.ref it)) (fun r s1 => r = none ∧ Inv X pins σ H s1) E s
  self : ∀ (A : Around) (i : Nat) (s : Shared) (Q : Value → Shared → Prop) (E : Value → Shared → Prop), tn i s.heap → Q (.ref it) s → wpAny (model P w) A (pyIter (.ref it)) Q E s
abbrev TI := St → Hp → (It → Hp → Prop) → Prop
def PIE (X : Cx) (pins : List (Addr × Obj)) (σ : St) (tg : Expr) (R : It → Hp → Prop) (itv : Value) (s2 : Shared) : Prop :=
  ∃ (it : Addr) (fp : List Addr) (tn : Nat → Heap → Prop) (J : It) (H' : Hp), itv = .ref it ∧ Inv X pins σ H' s2 ∧ Turn X.prog X.w X.K tg J fp it tn ∧ tn 0 s2.heap ∧ (∀ b ∈ fp, FpOk X pins H' b) ∧ R J H'
def PI (X : Cx) (tg iter : Expr) (wi : TI) : Prop :=
  ∀ (pins : List (Addr × Obj)) (s : Shared) (σ : St) (H : Hp) (R : It → Hp → Prop), Inv X pins σ H s → wi σ H R →
    wpAny (model X.prog X.w) X.A (eval iter X.env) (fun v s1 => wpAny (model X.prog X.w) X.A (pyIter v) (PIE X pins σ tg R) X.xe s1) X.xe s
theorem go_of {M : Model} {A : Around} {E : Value → Shared → Prop} {s : Shared} {tg : Expr} {it : Addr} {u : Value} {o : Obj} {n : String} {vs : Array Value} {Q : Unit → Shared → Prop} (ho : s.heap.get? it = some o) (hc : o.cls = .type n) (hd : o.data = .fields vs)
    (hn : ["enumerate", "zip", "dict_itemiterator", "dict_reverseitemiterator", "odict_iterator", "itertools.zip_longest", "itertools.pairwise"].contains n = false) (hQ : Q () s) : wpAny M A (letOwnedTupleGo tg (.ref it) u) Q E s := by
  unfold letOwnedTupleGo
  cases tg <;> first
    | exact wpAny_pure hQ
    | (cases u <;> first
        | exact wpAny_pure hQ
        | (refine wpAny_bind (wpAny_load ho ?_)
           rw [hc, hd]
           show wpAny M A (if (["enumerate", "zip", "dict_itemiterator", "dict_reverseitemiterator", "odict_iterator", "itertools.zip_longest", "itertools.pairwise"].contains n && vs[0]? == some (rawInt _)) = true then _ else _) Q E s
           rw [if_neg (by intro h; rw [hn, Bool.false_and] at h; cases h)]
           exact wpAny_pure hQ))
def Itl (K : PySem.W.Frag) (a : Addr) : It :=
  ⟨fun i H => ∃ xs x, SqL K H a xs ∧ xs[i]? = some x, fun i H x H' => H' = H ∧ ∀ xs, SqL K H a xs → xs[i]? = some x, fun i H => ∃ xs, SqL K H a xs ∧ xs.length ≤ i⟩
def Itt (K : PySem.W.Frag) (a : Addr) : It :=
  ⟨fun i H => ∃ xs x, SqT K H a xs ∧ xs[i]? = some x, fun i H x H' => H' = H ∧ ∀ xs, SqT K H a xs → xs[i]? = some x, fun i H => ∃ xs, SqT K H a xs ∧ xs.length ≤ i⟩
def Itr (lo : Int) (n : Nat) : It := ⟨fun i _ => i < n, fun i H x H' => H' = H ∧ x = .int (lo + i), fun i _ => n ≤ i⟩
theorem turn_list {P : Program} {w : World} {K : PySem.W.Frag} {tg : Expr} (a it : Addr) : Turn P w K tg (Itl K a) [it] it (fun i h => h.IsListIter it a i) where
  mem := by simp
  obj := fun i h st b hb => by
    have e : b = it := by simpa using hb
    subst e
    obtain ⟨o, e, c, d⟩ := st
    exact ⟨o, e, fun v z => by rw [d] at z; cases z⟩
  keep := fun i h h' st k => st.at fun o e => k it (by simp) o e
  item := by
    intro X hP hw hK hc i pins s σ H E I hf st hg
    subst hP hw hK
    obtain ⟨xs, x, hq, hx⟩ := hg
    obtain ⟨its, rv, p, hz⟩ := I.list hq
    obtain ⟨u, hu, ru⟩ := rv.get hx
    obtain ⟨f0, f1, f2, f3, f4, f5⟩ := hf it (by simp)
    refine wpAny_pyNext_list_item st p.isList (x := u) (by simpa using hu) fun h' st' sb => ?_
    have I1 : Inv X pins σ H { s with heap := h' } := I.turned (t' := s.toks) (fun b o hb e => (sb.2 b hb).trans e) f0 f1 f3 f4 f5
    obtain ⟨o, e, c, d⟩ := id st'
    exact ⟨u, rfl, go_of (s := { s with heap := h' }) e c d (by decide) ⟨x, H, I1, ru, ⟨rfl, fun ys hy => by rw [I.list_inj hy hq]; exact hx⟩, st', fun b hb => (hf b hb).1⟩⟩
  done := by
    intro X hP hw hK hc i pins s σ H E I hf st hg
    subst hP hw hK
    obtain ⟨xs, hq, hx⟩ := hg
    obtain ⟨its, rv, p, hz⟩ := I.list hq
    obtain ⟨f0, f1, f2, f3, f4, f5⟩ := hf it (by simp)
    have hl := rv.length
    exact wpAny_pyNext_list_end (I.ok.hd hc) st p.isList (by simp; omega) fun h' eb => ⟨rfl, I.turned (t' := s.toks) (fun b o hb e => eb b o hb e) f0 f1 f3 f4 f5⟩
  self := fun _ _ _ _ _ st h => wpAny_pyIter_listiter st h
theorem turn_tuple {P : Program} {w : World} {K : PySem.W.Frag} {tg : Expr} (a it : Addr) : Turn P w K tg (Itt K a) [it] it (fun i h => h.IsTupleIter it a i) where
  mem := by simp
  obj := fun i h st b hb => by
    have e : b = it := by simpa using hb
    subst e
    obtain ⟨o, e, c, d⟩ := st
    exact ⟨o, e, fun v z => by rw [d] at z; cases z⟩
  keep := fun i h h' st k => st.at fun o e => k it (by simp) o e
  item := by
    intro X hP hw hK hc i pins s σ H E I hf st hg
    subst hP hw hK
    obtain ⟨xs, x, hq, hx⟩ := hg
    obtain ⟨its, rv, p, hz⟩ := I.tuple hq
    obtain ⟨u, hu, ru⟩ := rv.get hx
    obtain ⟨f0, f1, f2, f3, f4, f5⟩ := hf it (by simp)
    refine wpAny_pyNext_tuple_item st (show s.heap.IsTuple a its.toArray from p) (x := u) (by simpa using hu) fun h' st' sb => ?_
    have I1 : Inv X pins σ H { s with heap := h' } := I.turned (t' := s.toks) (fun b o hb e => (sb.2 b hb).trans e) f0 f1 f3 f4 f5
    obtain ⟨o, e, c, d⟩ := id st'
    exact ⟨u, rfl, go_of (s := { s with heap := h' }) e c d (by decide) ⟨x, H, I1, ru, ⟨rfl, fun ys hy => by rw [I.tuple_inj hy hq]; exact hx⟩, st', fun b hb => (hf b hb).1⟩⟩
  done := by
    intro X hP hw hK hc i pins s σ H E I hf st hg
    subst hP hw hK
    obtain ⟨xs, hq, hx⟩ := hg
    obtain ⟨its, rv, p, hz⟩ := I.tuple hq
    obtain ⟨f0, f1, f2, f3, f4, f5⟩ := hf it (by simp)
    have hl := rv.length
    exact wpAny_pyNext_tuple_end (I.ok.hd hc) st (show s.heap.IsTuple a its.toArray from p) (by simp; omega) fun h' eb => ⟨rfl, I.turned (t' := s.toks) (fun b o hb e => eb b o hb e) f0 f1 f3 f4 f5⟩
  self := fun _ _ _ _ _ st h => wpAny_pyIter_tupleiter st h
theorem turn_range {P : Program} {w : World} {K : PySem.W.Frag} {tg : Expr} (it : Addr) (lo : Int) (n : Nat) : Turn P w K tg (Itr lo n) [it] it (fun i h => IsRangeIter h it (lo + (i : Nat) * 1) ((n : Int) - (i : Nat)) 1) where
  mem := by simp
  obj := fun i h st b hb => by
    have e : b = it := by simpa using hb
    subst e
    exact ⟨_, st, fun v z => by
      have z' : Data.fields _ = Data.cell v := z
      cases z'⟩
  keep := fun i h h' st k => k it (by simp) _ st
  item := by
    intro X hP hw hK hc i pins s σ H E I hf st hg
    subst hP hw hK
    obtain ⟨f0, f1, f2, f3, f4, f5⟩ := hf it (by simp)
    have W := Walks.range (prog := X.prog) (w := X.w) (I.ok.hd hc) it lo 1 n
    refine W.item i s _ _ hg st fun v h' tk hv st' kk => ?_
    obtain ⟨t, rfl⟩ := hv
    have I1 : Inv X pins σ H { s with heap := h', toks := tk } := I.turned (fun b o hb e => kk b o (by simpa using hb) e) f0 f1 f3 f4 f5
    refine ⟨_, rfl, go_of (s := { s with heap := h', toks := tk }) (n := "range_iterator") st' rfl rfl (by decide) ⟨.int (lo + i), H, I1, ⟨t, ?_⟩, ⟨rfl, rfl⟩, st', fun b hb => (hf b hb).1⟩⟩
    rw [Int.mul_one]
  done := by
    intro X hP hw hK hc i pins s σ H E I hf st hg
    subst hP hw hK
    obtain ⟨f0, f1, f2, f3, f4, f5⟩ := hf it (by simp)
    exact wpAny_pyNext_range_end (I.ok.hd hc) st (by have : n ≤ i := hg; omega) fun h' eb => ⟨rfl, I.turned (t' := s.toks) (fun b o hb e => eb b o hb e) f0 f1 f3 f4 f5⟩
  self := fun _ _ _ _ _ st h => wpAny_pyIter_rangeiter st h
end L2
namespace L2
open PySem PySem.Spec PyProof.Rows
section
variable {X : Cx} {tg : Expr}
theorem range_it {pins : List (Addr × Obj)} {σ : St} {H : Hp} {s : Shared} {R : It → Hp → Prop} {E : Value → Shared → Prop} {lo hi : Int} {t u v : Tok} {tk : Nat} (I : Inv X pins σ H s) (h1 : -(2 ^ 62) ≤ lo) (h2 : lo < 2 ^ 62) (h3 : -(2 ^ 62) ≤ hi) (h4 : hi < 2 ^ 62)
    (q : R (Itr lo (hi - lo).toNat) H) : wpAny (model X.prog X.w) X.A (pyIter (.ref s.heap.objs.size)) (PIE X pins σ tg R) E { s with heap := s.heap.push { cls := .type "range", data := .fields #[.int lo t, .int hi u, .int 1 v] }, toks := tk } := by
  refine wpAny_pyIter_range (IsRange.new ..) (small_one h1 h2 h3 h4) ?_
  have I1 : Inv X pins σ H { s with heap := s.heap.push { cls := .type "range", data := .fields #[.int lo t, .int hi u, .int 1 v] }, toks := tk } := I.kept fun b o e => Heap.get?_push_of_some _ e
  refine ⟨(s.heap.push { cls := .type "range", data := .fields #[.int lo t, .int hi u, .int 1 v] }).objs.size, [(s.heap.push { cls := .type "range", data := .fields #[.int lo t, .int hi u, .int 1 v] }).objs.size], _, _, H, rfl,
    I1.kept (t' := tk) fun b o e => Heap.get?_push_of_some _ e, turn_range _ lo (hi - lo).toNat, ?_, fun b hb => ?_, q⟩
  · have e1 : lo + ((0 : Nat) : Int) * 1 = lo := by simp
    have e2 : (((hi - lo).toNat : Nat) : Int) - ((0 : Nat) : Int) = Builtin.Range.rangeSize lo hi 1 := by rw [rangeSize_one]; split <;> omega
    show IsRangeIter _ _ (lo + ((0 : Nat) : Int) * 1) ((((hi - lo).toNat : Nat) : Int) - ((0 : Nat) : Int)) 1
    rw [e1, e2]
    exact Heap.get?_push_size _ rfl
  · have e : b = (s.heap.push { cls := .type "range", data := .fields #[.int lo t, .int hi u, .int 1 v] }).objs.size := by simpa using hb
    subst e
    exact I1.fpOk (Nat.le_refl _) (I1.hok.fresh (Nat.le_refl _))
def iRng1 (ta : TA) : TI := fun σ H R => ta σ H fun vs H1 => ∃ j : Int, vs = [.int j] ∧ -(2 ^ 62) ≤ j ∧ j < 2 ^ 62 ∧ R (Itr 0 j.toNat) H1
theorem pi_range1 {a : Expr} {ta : TA} {p pos : Pos} (hg : Gl X "range") (hm : X.mg "range" = none) (ha : PA X [a] ta) (hs : starEach [a] X.env = [(false, eval a X.env)] := by rfl) : PI X tg (.Call (.Name "range" p) [a] [] pos) (iRng1 ta) := by
  intro pins s σ H R I h
  refine Call_ (ld_blt I hg hm boot_range (PyProof.Rows.callWith_type1 (thn (ha pos pins s σ H _ I h) fun us s1 ⟨vs, H1, I1, r1, q1⟩ => ?_) hs rfl))
  obtain ⟨j, e, q1, q2, q⟩ := q1
  subst e
  cases r1 with
  | cons r rr =>
    cases rr
    obtain ⟨t, rfl⟩ := r
    exact call_range_1 (range_it I1 (by omega) (by omega) q1 q2 (by simpa using q))
def tFor (wi : TI) (g : TG) (tb : TS) : TS := fun D σ H => wi σ H fun J H1 => ∃ W : Nat → Nat → St → Hp → Prop, (∃ m, W 0 m σ H1) ∧ ∀ i m σ H, W i m σ H →
  (J.stop i H ∧ D.nx σ H) ∨ (J.go i H ∧ ∃ N : St → Hp → Prop, (∀ σ' H', N σ' H' → ∃ m', m' < m ∧ W (i + 1) m' σ' H') ∧ ∀ x H', J.yld i H x H' → g x σ H' fun σ2 H2 => tb { D with nx := N, ct := N, bk := D.nx } σ2 H2)
def pinsAt (fp : List Addr) (h : Heap) : List (Addr × Obj) := fp.filterMap fun b => (h.get? b).map fun o => (b, o)
theorem mem_pinsAt {fp : List Addr} {h : Heap} {b : Addr} {o : Obj} (hb : b ∈ fp) (e : h.get? b = some o) : (b, o) ∈ pinsAt fp h := List.mem_filterMap.mpr ⟨b, hb, by rw [e]; rfl⟩
theorem of_pinsAt {fp : List Addr} {h : Heap} {p : Addr × Obj} (hp : p ∈ pinsAt fp h) : p.1 ∈ fp ∧ h.get? p.1 = some p.2 := by
  obtain ⟨b, hb, e⟩ := List.mem_filterMap.mp hp
  cases q : h.get? b with
  | none => rw [q] at e; cases e
  | some o =>
    rw [q] at e
    have e' : (b, o) = p := Option.some.inj e
    subst e'
    exact ⟨hb, q⟩
theorem Inv.pinned {pins : List (Addr × Obj)} {σ : St} {H : Hp} {s : Shared} {fp : List Addr} (I : Inv X pins σ H s) (hf : ∀ b ∈ fp, FpOk X pins H b) (ho : ∀ b ∈ fp, ∃ o, s.heap.get? b = some o ∧ ∀ v, o.data ≠ .cell v) : Inv X (pins ++ pinsAt fp s.heap) σ H s :=
  I.pins_of fun p hp => (List.mem_append.mp hp).elim (fun z => I.pin p (List.mem_append_right _ z)) fun z => by
    obtain ⟨hb, e⟩ := of_pinsAt z
    obtain ⟨f0, f1, f2, _⟩ := hf p.1 hb
    obtain ⟨o, e', d⟩ := ho p.1 hb
    rw [e] at e'; cases e'
    exact ⟨e, f0, f1, f2, d⟩
theorem Inv.unpinned {pins pl : List (Addr × Obj)} {σ : St} {H : Hp} {s : Shared} (I : Inv X (pins ++ pl) σ H s) : Inv X pins σ H s := I.pins_of fun p hp => I.pin p (List.mem_append_right _ (List.mem_append_left _ hp))
theorem ps_for {iter : Expr} {body : List Stmt} {wi : TI} {g : TG} {tb : TS} {pos : Pos} (hp : PassesOwn (model X.prog X.w) X.A X.env X.xe) (hc : X.calm = true) (hi : PI X tg iter wi) (hg : PG X tg g) (hb : PSs X body tb)
    (hs : ∀ x, foldedSetIterable iter X.env x = pure x := by intro _; rfl) : PS X (.For tg iter body [] pos) (tFor wi g tb) := by
  intro pins s σ H D I h
  refine wpAny_For (thn (hi pins s σ H _ I h) fun v s1 h1 => thn h1 fun itv s2 h2 => ?_) hs
  obtain ⟨it, fp, tn, J, H2, e, I2, T, st2, f2, W, ⟨m0, w0⟩, turn⟩ := h2
  subst e
  -- what stays true of the iterator's objects through the loop
  have stat : ∀ {H' : Hp}, (∀ b ∈ fp, H' b = none) → ∀ b ∈ fp, FpOk X pins H' b := fun hn b hb => ⟨hn b hb, (f2 b hb).2⟩
  refine codeAny_forLoop_any (fun n s' => ∃ i σ' H', Inv X pins σ' H' s' ∧ tn i s'.heap ∧ (∀ b ∈ fp, H' b = none) ∧ W i n σ' H') ?_ m0 ⟨0, σ, H2, I2, st2, fun b hb => (f2 b hb).1, w0⟩
  rintro n s3 ⟨i, σ3, H3, I3, st3, fr3, w3⟩
  rcases turn i n σ3 H3 w3 with ⟨stop, qn⟩ | ⟨go, N, hN, step⟩
  · refine wpAny_passesOwn hp (thn (T.done X rfl rfl rfl hc i pins s3 σ3 H3 X.xe I3 (stat fr3) st3 stop) fun r s4 ⟨hr, I4⟩ => ?_)
    subst hr
    exact wpAny_execs_nil ⟨σ3, H3, I4, qn⟩
  · refine wpAny_passesOwn hp (thn (T.item X rfl rfl rfl hc i pins s3 σ3 H3 X.xe I3 (stat fr3) st3 go) fun r s4 ⟨u, hr, h4⟩ => ?_)
    subst hr
    refine wpAny_passesOwn hp (thn h4 fun _ s5 ⟨x, H5, I5, r5, y5, st5, fr5⟩ => ?_)
    have I5' := I5.pinned (stat fr5) (T.obj _ _ st5)
    refine wpAny_passesOwn hp (thn (hg _ s5 σ3 H5 x u _ I5' r5 (step x H5 y5)) fun _ s6 ⟨σ6, H6, I6, q6⟩ => ?_)
    refine wpAny_passesOwn hp (thn (hb _ s6 σ6 H6 _ I6 q6) fun f s7 q7 => ?_)
    have again : ∀ {σ7 : St} {H7 : Hp}, Inv X (pins ++ pinsAt fp s5.heap) σ7 H7 s7 → N σ7 H7 → ∃ m, m < n ∧ ∃ i σ' H', Inv X pins σ' H' s7 ∧ tn i s7.heap ∧ (∀ b ∈ fp, H' b = none) ∧ W i m σ' H' := fun {σ7 H7} I7 n7 => by
      obtain ⟨m', hm, w7⟩ := hN σ7 H7 n7
      refine ⟨m', hm, i + 1, σ7, H7, I7.unpinned, T.keep _ _ _ st5 fun b hb o e => (I7.pin (b, o) (List.mem_append_right _ (List.mem_append_right _ (mem_pinsAt hb e)))).1, fun b hb => ?_, w7⟩
      obtain ⟨o, e, d⟩ := T.obj _ _ st5 b hb
      exact (I7.pin (b, o) (List.mem_append_right _ (List.mem_append_right _ (mem_pinsAt hb e)))).2.1
    cases f with
    | next => obtain ⟨σ7, H7, I7, n7⟩ := q7; exact again I7 n7
    | cont => obtain ⟨σ7, H7, I7, n7⟩ := q7; exact again I7 n7
    | brk => obtain ⟨σ7, H7, I7, q7⟩ := q7; exact ⟨σ7, H7, I7.unpinned, q7⟩
    | ret v => obtain ⟨x7, σ7, H7, I7, r7, q7⟩ := q7; exact ⟨x7, σ7, H7, I7.unpinned, r7, q7⟩
end
end L2
namespace L2
open PySem PySem.Spec PyProof.Rows
abbrev R2 := V → V → Hp → VK → Prop
def OpR (X : Cx) (f : Value → Value → Sem Value) (r : R2) : Prop :=
  ∀ (pins : List (Addr × Obj)) (s : Shared) (σ : St) (H : Hp) (x y : V) (v u : Value) (Q : VK), Inv X pins σ H s → RelV x v → RelV y u → r x y H Q →
    wpAny (model X.prog X.w) X.A (f v u) (EP X pins σ Q) X.xe s
def UnR (X : Cx) (f : Value → Sem Value) (r : V → Hp → VK → Prop) : Prop :=
  ∀ (pins : List (Addr × Obj)) (s : Shared) (σ : St) (H : Hp) (x : V) (v : Value) (Q : VK), Inv X pins σ H s → RelV x v → r x H Q →
    wpAny (model X.prog X.w) X.A (f v) (EP X pins σ Q) X.xe s
def CallR (X : Cx) (f : Value) (r : List V → Hp → VK → Prop) : Prop :=
  ∀ (pins : List (Addr × Obj)) (s : Shared) (σ : St) (H : Hp) (xs : List V) (us : List Value) (Q : VK), Inv X pins σ H s → Vals xs us → r xs H Q →
    wpAny (model X.prog X.w) X.A (call f us) (EP X pins σ Q) X.xe s
def TruR (X : Cx) (r : V → Hp → (Bool → Hp → Prop) → Prop) : Prop :=
  ∀ (pins : List (Addr × Obj)) (s : Shared) (σ : St) (H : Hp) (x : V) (v : Value) (Q : Bool → Hp → Prop), Inv X pins σ H s → RelV x v → r x H Q →
    wpAny (model X.prog X.w) X.A (truthy v) (TP X pins σ Q) X.xe s
def tOp (r : R2) (ta tb : TE) : TE := fun σ H Q => ta σ H fun x H1 => tb σ H1 fun y H2 => r x y H2 Q
def tUn (r : V → Hp → VK → Prop) (ta : TE) : TE := fun σ H Q => ta σ H fun x H1 => r x H1 Q
def rI (C : Int → Int → Prop) (g : Int → Int → V) : R2 := fun x y H Q => ∃ i j, x = .int i ∧ y = .int j ∧ C i j ∧ Q (g i j) H
def rI0 (g : Int → Int → V) : R2 := fun x y H Q => ∃ i j, x = .int i ∧ y = .int j ∧ Q (g i j) H
def rU (g : Int → V) : V → Hp → VK → Prop := fun x H Q => ∃ i, x = .int i ∧ Q (g i) H
section
variable {X : Cx} {a b c : Expr} {ta tb tc : TE} {pos : Pos}
theorem binT (ha : PE X a ta) (hb : PE X b tb) {pins : List (Addr × Obj)} {s : Shared} {σ : St} {H : Hp} {R : V → V → Hp → Prop} (I : Inv X pins σ H s)
    (h : ta σ H fun x H1 => tb σ H1 fun y H2 => R x y H2) {Q : Value → Shared → Prop} {f : Value → Value → Sem Value}
    (hf : ∀ v u s2 x y H2, Inv X pins σ H2 s2 → RelV x v → RelV y u → R x y H2 → wpAny (model X.prog X.w) X.A (f v u) Q X.xe s2) :
    wpAny (model X.prog X.w) X.A (eval a X.env) (fun v s₁ => wpAny (model X.prog X.w) X.A (eval b X.env) (fun u s₂ => wpAny (model X.prog X.w) X.A (f v u) Q X.xe s₂) X.xe s₁) X.xe s := by
  refine thn (ha pins s σ H _ I h) fun v s1 ⟨x, H1, I1, r1, q1⟩ => ?_
  refine thn (hb pins s1 σ H1 _ I1 q1) fun u s2 ⟨y, H2, I2, r2, q2⟩ => ?_
  exact hf v u s2 x y H2 I2 r1 r2 q2
theorem pe_op {op : Operator} {r : R2} (ho : OpR X (binaryOp op) r) (ha : PE X a ta) (hb : PE X b tb) : PE X (.BinOp a op b pos) (tOp r ta tb) := by
  intro pins s σ H Q I h
  exact wpAny_BinOp (binT ha hb I h fun v u s2 x y H2 I2 rx ry q => ho pins s2 σ H2 x y v u Q I2 rx ry q)
theorem pe_un {op : UnaryOp} {r : V → Hp → VK → Prop} (ho : UnR X (unaryOp op) r) (ha : PE X a ta) : PE X (.UnaryOp op a pos) (tUn r ta) := by
  intro pins s σ H Q I h
  exact UnaryOp_ (thn (ha pins s σ H _ I h) fun v s1 ⟨x, H1, I1, r1, q1⟩ => ho pins s1 σ H1 x v Q I1 r1 q1)
theorem opI {f : Value → Value → Sem Value} {C : Int → Int → Prop} {g : Int → Int → Int}
    (rule : ∀ (i j : Int) (t u : Tok) (s : Shared) (Q : Value → Shared → Prop) (E : Value → Shared → Prop), C i j → Q (.int (g i j) s.toks) { s with toks := s.toks + 1 } → wpAny (model X.prog X.w) X.A (f (.int i t) (.int j u)) Q E s) :
    OpR X f (rI C fun i j => .int (g i j)) := by
  intro pins s σ H x y v u Q I rx ry h
  obtain ⟨i, j, rfl, rfl, hc, q⟩ := h
  obtain ⟨t, rfl⟩ := rx
  obtain ⟨t', rfl⟩ := ry
  exact rule i j t t' s _ _ hc ⟨.int (g i j), H, I.tok _, ⟨_, rfl⟩, q⟩
theorem opI0 {f : Value → Value → Sem Value} {g : Int → Int → Int}
    (rule : ∀ (i j : Int) (t u : Tok) (s : Shared) (Q : Value → Shared → Prop) (E : Value → Shared → Prop), Q (.int (g i j) s.toks) { s with toks := s.toks + 1 } → wpAny (model X.prog X.w) X.A (f (.int i t) (.int j u)) Q E s) :
    OpR X f (rI0 fun i j => .int (g i j)) := by
  intro pins s σ H x y v u Q I rx ry h
  obtain ⟨i, j, rfl, rfl, q⟩ := h
  obtain ⟨t, rfl⟩ := rx
  obtain ⟨t', rfl⟩ := ry
  exact rule i j t t' s _ _ ⟨.int (g i j), H, I.tok _, ⟨_, rfl⟩, q⟩
theorem opB0 {f : Value → Value → Sem Value} {g : Int → Int → Bool}
    (rule : ∀ (i j : Int) (t u : Tok) (s : Shared) (Q : Value → Shared → Prop) (E : Value → Shared → Prop), Q (.bool (g i j)) s → wpAny (model X.prog X.w) X.A (f (.int i t) (.int j u)) Q E s) :
    OpR X f (rI0 fun i j => .bl (g i j)) := by
  intro pins s σ H x y v u Q I rx ry h
  obtain ⟨i, j, rfl, rfl, q⟩ := h
  obtain ⟨t, rfl⟩ := rx
  obtain ⟨t', rfl⟩ := ry
  exact rule i j t t' s _ _ ⟨.bl (g i j), H, I, rfl, q⟩
def CDiv (i j : Int) : Prop := 0 < j ∧ j < 1073741824
def CDivN (i j : Int) : Prop := j ≠ 0 ∧ j.natAbs < 1073741824
def CPow (i j : Int) : Prop := 0 ≤ j ∧ j ≤ 1000000 ∧ i.natAbs < 2 ^ 64
def CMul (i j : Int) : Prop := (-(2 ^ 64) < i ∧ i < 2 ^ 64) ∨ (-(2 ^ 64) < j ∧ j < 2 ^ 64)
theorem CMul.ok {i j : Int} (h : CMul i j) : IntMulOk i j := by
  rcases h with ⟨h1, h2⟩ | ⟨h1, h2⟩
  · exact .of_left (intBits_le_64 h1 h2)
  · exact .of_right (intBits_le_64 h1 h2)
theorem op_add : OpR X (binaryOp .Add) (rI0 fun i j => .int (i + j)) := opI0 fun _ _ _ _ _ _ _ q => add_int q
theorem op_sub : OpR X (binaryOp .Sub) (rI0 fun i j => .int (i - j)) := opI0 fun _ _ _ _ _ _ _ q => sub_int q
theorem op_mul : OpR X (binaryOp .Mult) (rI CMul fun i j => .int (i * j)) := opI fun _ _ _ _ _ _ _ hc q => mul_int q hc.ok
theorem op_fdiv : OpR X (binaryOp .FloorDiv) (rI CDiv fun i j => .int (i / j)) := opI fun i j _ _ _ _ _ hc q => by
  have h1 : (0 : Int) < j := hc.1
  have h2 : j < 1073741824 := hc.2
  exact floordiv_int (by omega) (by rw [Int.fdiv_eq_ediv_of_nonneg i (by omega)]; exact q) (.inl (PyProof.noPylong_small (by omega)))
theorem op_fdivN : OpR X (binaryOp .FloorDiv) (rI CDivN fun i j => .int (i.fdiv j)) := opI fun _ _ _ _ _ _ _ hc q => floordiv_int hc.1 q (.inl (PyProof.noPylong_small hc.2))
theorem op_mod : OpR X (binaryOp .Mod) (rI (fun _ j => 0 < j) fun i j => .int (i % j)) := opI fun i j _ _ _ _ _ hc q => by
  have h1 : (0 : Int) < j := hc
  exact mod_int' (by omega) (by rw [Int.fmod_eq_emod_of_nonneg i (by omega)]; exact q)
theorem op_modN : OpR X (binaryOp .Mod) (rI (fun _ j => j ≠ 0) fun i j => .int (i.fmod j)) := opI fun _ _ _ _ _ _ _ hc q => mod_int' hc q
theorem op_pow : OpR X (binaryOp .Pow) (rI CPow fun i j => .int (i ^ j.toNat)) := opI fun _ _ _ _ _ _ _ hc q => pow_int_small hc.1 hc.2.1 hc.2.2 q
theorem unI {f : Value → Sem Value} {g : Int → Int}
    (rule : ∀ (i : Int) (t : Tok) (s : Shared) (Q : Value → Shared → Prop) (E : Value → Shared → Prop), Q (.int (g i) s.toks) { s with toks := s.toks + 1 } → wpAny (model X.prog X.w) X.A (f (.int i t)) Q E s) :
    UnR X f (rU fun i => .int (g i)) := by
  intro pins s σ H x v Q I rx h
  obtain ⟨i, rfl, q⟩ := h
  obtain ⟨t, rfl⟩ := rx
  exact rule i t s _ _ ⟨.int (g i), H, I.tok _, ⟨_, rfl⟩, q⟩
theorem un_neg : UnR X (unaryOp .USub) (rU fun i => .int (-i)) := unI fun _ _ _ _ _ q => neg_int q
end
def scal : V → V → Bool
  | .non, .non => true | .non, .int _ => true | .int _, .non => true | .non, .bl _ => true | .bl _, .non => true | .non, .str _ => true | .str _, .non => true
  | .int _, .int _ => true | .bl _, .bl _ => true | .str _, .str _ => true | .byt _, .byt _ => true
  | .int _, .str _ => true | .str _, .int _ => true | .bl _, .str _ => true | .str _, .bl _ => true
  | _, _ => false
def rEq : R2 := fun x y H Q => scal x y = true ∧ Q (.bl (decide (x = y))) H
def rNe : R2 := fun x y H Q => scal x y = true ∧ Q (.bl (!decide (x = y))) H
theorem dec_int {i j : Int} : decide (V.int i = V.int j) = (i == j) := by
  rw [Bool.eq_iff_iff]
  simp
theorem dec_bl {i j : Bool} : decide (V.bl i = V.bl j) = (i == j) := by
  rw [Bool.eq_iff_iff]
  simp
theorem dec_str {i j : Str} : decide (V.str i = V.str j) = (i == j) := by
  rw [Bool.eq_iff_iff]
  simp
theorem dec_byt {i j : Array UInt8} : decide (V.byt i = V.byt j) = (i.toList == j.toList) := by
  rw [Bool.eq_iff_iff]
  cases i
  cases j
  simp
section
variable {X : Cx} {a b c : Expr} {ta tb tc : TE} {pos : Pos}
theorem fin_bl {pins : List (Addr × Obj)} {σ : St} {H : Hp} {s : Shared} {Q : VK} {k k' : Bool} (I : Inv X pins σ H s) (q : Q (.bl k) H) (e : k = k') : EP X pins σ Q (.bool k') s := by
  subst e
  exact ⟨.bl k, H, I, rfl, q⟩
theorem op_eq : OpR X (compareOp .Eq) rEq := by
  intro pins s σ H x y v u Q I rx ry h
  obtain ⟨hs, q⟩ := h
  cases x with
  | non =>
    cases rx
    cases y with
    | non => cases ry; exact PySem.EqNone.eq_none_none (fin_bl I q (by simp))
    | bl j => cases ry; exact PySem.EqNone.eq_none_bool (fin_bl I q (by simp))
    | int j => obtain ⟨t', rfl⟩ := ry; exact PySem.EqNone.eq_none_int (fin_bl I q (by simp))
    | str j => obtain ⟨t', rfl⟩ := ry; exact PySem.EqNone.eq_none_str (fin_bl I q (by simp))
    | _ => exact absurd (show false = true from hs) Bool.false_ne_true
  | bl i =>
    cases rx
    cases y with
    | non => cases ry; exact PySem.EqNone.eq_bool_none (fin_bl I q (by simp))
    | bl j => cases ry; exact eq_bool (fin_bl I q dec_bl)
    | str j => obtain ⟨t', rfl⟩ := ry; exact PySem.EqMixed.eq_bool_str (fin_bl I q (by simp))
    | _ => exact absurd (show false = true from hs) Bool.false_ne_true
  | int i =>
    obtain ⟨t, rfl⟩ := rx
    cases y with
    | non => cases ry; exact PySem.EqNone.eq_int_none (fin_bl I q (by simp))
    | int j => obtain ⟨t', rfl⟩ := ry; exact eq_int (fin_bl I q dec_int)
    | str j => obtain ⟨t', rfl⟩ := ry; exact PySem.EqMixed.eq_int_str (fin_bl I q (by simp))
    | _ => exact absurd (show false = true from hs) Bool.false_ne_true
  | str i =>
    obtain ⟨t, rfl⟩ := rx
    cases y with
    | non => cases ry; exact PySem.EqNone.eq_str_none (fin_bl I q (by simp))
    | bl j => cases ry; exact PySem.EqMixed.eq_str_bool (fin_bl I q (by simp))
    | int j => obtain ⟨t', rfl⟩ := ry; exact PySem.EqMixed.eq_str_int (fin_bl I q (by simp))
    | str j => obtain ⟨t', rfl⟩ := ry; exact eq_str (fin_bl I q dec_str)
    | _ => exact absurd (show false = true from hs) Bool.false_ne_true
  | byt i =>
    obtain ⟨t, rfl⟩ := rx
    cases y with
    | byt j => obtain ⟨t', rfl⟩ := ry; exact PySem.W.eq_bytes (fin_bl I q dec_byt)
    | _ => exact absurd (show false = true from hs) Bool.false_ne_true
  | _ => cases y <;> exact absurd (show false = true from hs) Bool.false_ne_true
theorem op_ne : OpR X (compareOp .NotEq) rNe := by
  intro pins s σ H x y v u Q I rx ry h
  obtain ⟨hs, q⟩ := h
  cases x with
  | non =>
    cases rx
    cases y with
    | non => cases ry; exact PySem.EqNone.ne_none_none (fin_bl I q (by simp))
    | bl j => cases ry; exact PySem.EqNone.ne_none_bool (fin_bl I q (by simp))
    | int j => obtain ⟨t', rfl⟩ := ry; exact PySem.EqNone.ne_none_int (fin_bl I q (by simp))
    | str j => obtain ⟨t', rfl⟩ := ry; exact PySem.EqNone.ne_none_str (fin_bl I q (by simp))
    | _ => exact absurd (show false = true from hs) Bool.false_ne_true
  | bl i =>
    cases rx
    cases y with
    | non => cases ry; exact PySem.EqNone.ne_bool_none (fin_bl I q (by simp))
    | bl j => cases ry; exact ne_bool (fin_bl I q (congrArg not dec_bl))
    | str j => obtain ⟨t', rfl⟩ := ry; exact PySem.EqMixed.ne_bool_str (fin_bl I q (by simp))
    | _ => exact absurd (show false = true from hs) Bool.false_ne_true
  | int i =>
    obtain ⟨t, rfl⟩ := rx
    cases y with
    | non => cases ry; exact PySem.EqNone.ne_int_none (fin_bl I q (by simp))
    | int j => obtain ⟨t', rfl⟩ := ry; exact ne_int (fin_bl I q (congrArg not dec_int))
    | str j => obtain ⟨t', rfl⟩ := ry; exact PySem.EqMixed.ne_int_str (fin_bl I q (by simp))
    | _ => exact absurd (show false = true from hs) Bool.false_ne_true
  | str i =>
    obtain ⟨t, rfl⟩ := rx
    cases y with
    | non => cases ry; exact PySem.EqNone.ne_str_none (fin_bl I q (by simp))
    | bl j => cases ry; exact PySem.EqMixed.ne_str_bool (fin_bl I q (by simp))
    | int j => obtain ⟨t', rfl⟩ := ry; exact PySem.EqMixed.ne_str_int (fin_bl I q (by simp))
    | str j => obtain ⟨t', rfl⟩ := ry; exact ne_str (fin_bl I q (congrArg not dec_str))
    | _ => exact absurd (show false = true from hs) Bool.false_ne_true
  | byt i =>
    obtain ⟨t, rfl⟩ := rx
    cases y with
    | byt j => obtain ⟨t', rfl⟩ := ry; exact PySem.W.ne_bytes (fin_bl I q (congrArg not dec_byt))
    | _ => exact absurd (show false = true from hs) Bool.false_ne_true
  | _ => cases y <;> exact absurd (show false = true from hs) Bool.false_ne_true
theorem op_lt : OpR X (compareOp .Lt) (rI0 fun i j => .bl (decide (i < j))) := opB0 fun _ _ _ _ _ _ _ q => lt_int q
theorem op_gt : OpR X (compareOp .Gt) (rI0 fun i j => .bl (decide (j < i))) := opB0 fun _ _ _ _ _ _ _ q => gt_int q
theorem OpR.or {f : Value → Value → Sem Value} {r r' : R2} (h : OpR X f r) (h' : OpR X f r') : OpR X f (fun x y H Q => r x y H Q ∨ r' x y H Q) := by
  intro pins s σ H x y v u Q I rx ry q
  rcases q with q | q
  · exact h pins s σ H x y v u Q I rx ry q
  · exact h' pins s σ H x y v u Q I rx ry q
theorem nomark (b : Expr) {op : CmpOp} (h : op ≠ .In := by decide) (h2 : op ≠ .NotIn := by decide) : behindInMarks op b = false := by
  have e1 : (op == CmpOp.In) = false := by cases op <;> first | rfl | exact absurd rfl h
  have e2 : (op == CmpOp.NotIn) = false := by cases op <;> first | rfl | exact absurd rfl h2
  cases b <;> simp [behindInMarks, e1, e2]
def tTest (t : TE) : TT := fun σ H Q => t σ H fun x H' => ∃ k, x = .bl k ∧ Q k H'
theorem pt_cmpR {op : CmpOp} {r : R2} (ho : OpR X (compareOp op) r) (ha : PE X a ta) (hb : PE X b tb) (hm : behindInMarks op b = false) : PT X (.Compare a [op] [b] pos) (tTest (tOp r ta tb)) := by
  intro pins s σ H Q I h
  refine wpAny_isTrue_Compare1 (thn (ha pins s σ H _ I h) fun v s1 ⟨x, H1, I1, r1, q1⟩ => thn (hb pins s1 σ H1 _ I1 q1) fun u s2 ⟨y, H2, I2, r2, q2⟩ =>
    thn (ho pins s2 σ H2 x y v u _ I2 r1 r2 q2) fun c s3 ⟨z, H3, I3, r3, k, e, q3⟩ => ?_) hm
  subst e
  cases r3
  exact wpAny_truthy_bool ⟨H3, I3, q3⟩
def TruV (K : PySem.W.Frag) (x : V) (H : Hp) (k : Bool) : Prop :=
  match x with
  | .non => k = false
  | .bl b => k = b
  | .int i => k = (i != 0)
  | .str y => y.length ≤ sizeLine ∧ k = ((y.length : Int) != 0)
  | .byt y => y.size ≤ sizeLine ∧ k = ((y.size : Int) != 0)
  | .ref p => (∃ xs, SqL K H p xs ∧ k = !xs.isEmpty) ∨ (∃ xs, SqT K H p xs ∧ k = !xs.isEmpty) ∨ ∃ kvs, H p = some (.dK kvs) ∧ k = !kvs.isEmpty
  | _ => False
theorem isEmpty_kv {κ : Type} {kvs : List (κ × V)} {vs : List (κ × Value)} (r : KV kvs vs) : (!vs.isEmpty) = !kvs.isEmpty := by
  cases r <;> rfl
theorem isEmpty_of {xs : List V} {its : List Value} (r : Vals xs its) : (!its.toArray.isEmpty) = !xs.isEmpty := by
  cases r <;> simp
theorem line63 : (sizeLine : Nat) < 2 ^ 63 := by rw [sizeLine_eq]; decide
theorem tru_ok : TruR X (fun x H Q => ∃ k, TruV X.K x H k ∧ Q k H) := by
  intro pins s σ H x v Q I rx h
  obtain ⟨k, e, q⟩ := h
  have hl := line63
  have hs : sizeLine = 16777216 := sizeLine_eq
  cases x with
  | non =>
    cases rx
    have e' : k = false := e
    subst e'
    exact truthy_none ⟨H, I, q⟩
  | bl b =>
    cases rx
    have e' : k = b := e
    subst e'
    exact wpAny_truthy_bool ⟨H, I, q⟩
  | int i =>
    obtain ⟨t, rfl⟩ := rx
    have e' : k = (i != 0) := e
    subst e'
    exact PySem.P.truthy_int ⟨H, I, q⟩
  | str y =>
    obtain ⟨t, rfl⟩ := rx
    obtain ⟨hy, e'⟩ : y.length ≤ sizeLine ∧ k = ((y.length : Int) != 0) := e
    subst e'
    exact PySem.P.truthy_str (by omega) ⟨H, I.tok _, q⟩
  | byt y =>
    obtain ⟨t, rfl⟩ := rx
    obtain ⟨hy, e'⟩ : y.size ≤ sizeLine ∧ k = ((y.size : Int) != 0) := e
    subst e'
    exact PySem.W.truthy_bytes (by omega) ⟨H, I.tok _, q⟩
  | ref p =>
    cases rx
    have e' : (∃ xs, SqL X.K H p xs ∧ k = !xs.isEmpty) ∨ (∃ xs, SqT X.K H p xs ∧ k = !xs.isEmpty) ∨ ∃ kvs, H p = some (.dK kvs) ∧ k = !kvs.isEmpty := e
    rcases e' with ⟨xs, hx, e'⟩ | ⟨xs, hx, e'⟩ | ⟨kvs, hx, e'⟩
    · subst e'
      obtain ⟨its, r, pl, hz⟩ := I.list hx
      have hlen := r.length
      exact wpAny_truthy_list pl.isList (by simp only [List.size_toArray]; omega) ⟨H, I.tok _, by rw [isEmpty_of r]; exact q⟩
    · subst e'
      obtain ⟨its, r, pl, hz⟩ := I.tuple hx
      have hlen := r.length
      exact truthy_tuple pl (by simp only [List.size_toArray]; omega) ⟨H, I.tok _, by rw [isEmpty_of r]; exact q⟩
    · subst e'
      obtain ⟨hz, hS, vs, r, m⟩ : kvs.length ≤ sizeLine ∧ (p == sysModules) = false ∧ ∃ vs, KV kvs vs ∧ s.heap.DictOf (mixKind X.prog X.w) p vs := I.hok p _ hx
      have hlen : kvs.length = vs.length := Paired.length r
      exact wpAny_truthy_dict hS m (by omega) ⟨H, I.tok _, by rw [isEmpty_kv r]; exact q⟩
  | _ => exact (show False from e).elim
theorem pt_truth (ha : PE X a ta) (he : ∀ whole, isTrue a X.env whole = (do let v ← whole; standAt a.pos; holding [v] (truthy v))) :
    PT X a (fun σ H Q => ta σ H fun x H' => ∃ k, TruV X.K x H' k ∧ Q k H') := by
  intro pins s σ H Q I h
  exact isTrue_plain (thn (ha pins s σ H _ I h) fun v s1 ⟨x, H1, I1, r1, q1⟩ => tru_ok pins s1 σ H1 x v Q I1 r1 q1) (he _)
theorem op_add_str : OpR X (binaryOp .Add) (fun x y H Q => ∃ i j, x = .str i ∧ y = .str j ∧ i.length + j.length ≤ sizeLine ∧ Q (.str (i ++ j)) H) := by
  intro pins s σ H x y v u Q I rx ry h
  obtain ⟨i, j, rfl, rfl, hz, q⟩ := h
  obtain ⟨t, rfl⟩ := rx
  obtain ⟨t', rfl⟩ := ry
  exact add_str (fun t' tk => ⟨.str (i ++ j), H, I.tok _, ⟨_, rfl⟩, q⟩) hz
theorem vals1 {x : V} {us : List Value} (r : Vals [x] us) : ∃ u, us = [u] ∧ RelV x u := by
  cases r with
  | cons r1 r2 => cases r2; exact ⟨_, rfl, r1⟩
theorem vals2 {x y : V} {us : List Value} (r : Vals [x, y] us) : ∃ u w', us = [u, w'] ∧ RelV x u ∧ RelV y w' := by
  cases r with
  | cons r1 r2 =>
    cases r2 with
    | cons r3 r4 => cases r4; exact ⟨_, _, rfl, r1, r3⟩
theorem call_min2 (hc : X.calm = true) : CallR X (.builtin "min") (fun xs H Q => ∃ i j, xs = [.int i, .int j] ∧ Q (.int (if j < i then j else i)) H) := by
  intro pins s σ H xs us Q I r h
  obtain ⟨i, j, rfl, q⟩ := h
  obtain ⟨u, w', rfl, ⟨t, rfl⟩, ⟨t', rfl⟩⟩ := vals2 r
  refine min_two_ints (I.ok.hd hc) fun h' tk k => ⟨_, H, I.kept k, ?_, q⟩
  by_cases hj : j < i
  · rw [if_pos hj, if_pos hj]; exact ⟨_, rfl⟩
  · rw [if_neg hj, if_neg hj]; exact ⟨_, rfl⟩
def LenV (K : PySem.W.Frag) (x : V) (H : Hp) (n : Nat) : Prop :=
  match x with
  | .str y => y.length ≤ sizeLine ∧ n = y.length
  | .byt y => y.size ≤ sizeLine ∧ n = y.size
  | .ref p => (∃ xs, SqL K H p xs ∧ n = xs.length) ∨ ∃ xs, SqT K H p xs ∧ n = xs.length
  | _ => False
theorem call_len : CallR X (.builtin "len") (fun xs H Q => ∃ x n, xs = [x] ∧ LenV X.K x H n ∧ Q (.int n) H) := by
  intro pins s σ H xs us Q I r h
  obtain ⟨x, n, rfl, e, q⟩ := h
  obtain ⟨u, rfl, rx⟩ := vals1 r
  have hl := line63
  have hs : sizeLine = 16777216 := sizeLine_eq
  cases x with
  | str y =>
    obtain ⟨t, rfl⟩ := rx
    obtain ⟨hy, e'⟩ : y.length ≤ sizeLine ∧ n = y.length := e
    subst e'
    exact len_str (by omega) ⟨.int _, H, I.tok _, ⟨_, rfl⟩, q⟩
  | byt y =>
    obtain ⟨t, rfl⟩ := rx
    obtain ⟨hy, e'⟩ : y.size ≤ sizeLine ∧ n = y.size := e
    subst e'
    exact PySem.W.len_bytes (by omega) ⟨.int _, H, I.tok _, ⟨_, rfl⟩, q⟩
  | ref p =>
    cases rx
    have e' : (∃ xs, SqL X.K H p xs ∧ n = xs.length) ∨ ∃ xs, SqT X.K H p xs ∧ n = xs.length := e
    rcases e' with ⟨xs, hx, e'⟩ | ⟨xs, hx, e'⟩
    · subst e'
      obtain ⟨its, r', pl, hz⟩ := I.list hx
      have hlen := r'.length
      exact Calls.call_len_list pl.isList (by simp only [List.size_toArray]; omega) ⟨.int xs.length, H, I.tok _, ⟨_, by simp only [List.size_toArray]; rw [hlen]⟩, q⟩
    · subst e'
      obtain ⟨its, r', pl, hz⟩ := I.tuple hx
      have hlen := r'.length
      exact len_tuple pl (by simp only [List.size_toArray]; omega) ⟨.int xs.length, H, I.tok _, ⟨_, by simp only [List.size_toArray]; rw [hlen]⟩, q⟩
  | _ => exact (show False from e).elim
end
end L2
namespace L2
open PySem PySem.Spec PyProof.Rows
structure ObjM (h : Heap) (x dx C : Addr) (mA : Str → Option Value) : Prop where
  obj : h.get? x = some (PySem.W.instObj C dx)
  ns : h.Ns1 dx mA
  ne : dx ≠ x
theorem lookIn_ns {h : Heap} {dx : Addr} {mA : Str → Option Value} (n : h.Ns1 dx mA) : ∃ od, h.get? dx = some od ∧ ∀ name, PySem.W.lookIn name od = some (mA name) := by
  obtain ⟨o, es, ep, ho, hd, hk, _, hm⟩ := n
  refine ⟨o, ho, fun name => ?_⟩
  have e := hm name
  unfold nsFind findBy at e
  rw [← Array.find?_toList] at e
  unfold PySem.W.lookIn
  rw [hd]
  dsimp only
  split
  · rename_i y q
    rw [q] at e
    exact congrArg some e
  · rename_i q
    rw [q] at e
    have a : es.toList.any (·.refKey) = false := by
      rw [List.any_eq_false]
      intro y hy
      obtain ⟨z, t, hkey⟩ := hk y (Array.mem_toList_iff.mp hy)
      simp [DictEntry.refKey, hkey]
    have a' : ¬ es.toList.any (·.refKey) = true := by rw [a]; exact Bool.false_ne_true
    rw [if_neg a']
    exact congrArg some e
theorem ObjM.look {h : Heap} {x dx C : Addr} {mA : Str → Option Value} (I : ObjM h x dx C mA) : ∃ od, PySem.W.InstAt h x (PySem.W.instObj C dx) C (some od) ∧ ∀ name, PySem.W.lookIn name od = some (mA name) :=
  let ⟨od, ho, hl⟩ := lookIn_ns I.ns
  ⟨od, ⟨I.obj, rfl, rfl, ho⟩, hl⟩
section
variable {prog : Program} {w : World} {A : Around} {E : Value → Shared → Prop} {s : Shared} {K : PySem.W.Frag} {x dx C f : Addr} {mA : Str → Option Value} {name : Str} {v : Value}
end
theorem RelO.some_of {v : V} {o : Option Value} (r : RelO (some v) o) : ∃ u, o = some u ∧ RelV v u := by
  cases o with
  | none => exact (show False from r).elim
  | some u => exact ⟨u, rfl, r⟩
section
variable {P : Program} {w : World} {H H' : Hp} {h h' : Heap} {a C dx : Addr} {fs fs' : List (Str × V)}
theorem ins_get (hok : HOk P w H h) (e : H a = some (.ins C dx fs)) : ∃ mA, ObjM h a dx C mA ∧ (∀ f, RelO (fs.lookup f) (mA f)) ∧ PySem.Within mA (fs.map (·.1)) ∧ fs.length ≤ 1000 ∧ H dx = some (.own a) := by
  obtain ⟨d, z, ne, ob, mA, n, r, q⟩ := (show ObjOk P w H h a (.ins C dx fs) from hok a _ e)
  exact ⟨mA, ⟨ob, n, ne⟩, r, q, z, d⟩
end
structure Cls (K : PySem.W.Frag) (C : Addr) : Prop where
  pg : PySem.W.plainGet K C Str.empty = true
  hd : PySem.W.hasDictIn K C = true
  po : PySem.W.plainOver K C = true
  sa : PySem.W.findIn K (.ref C) "__setattr__" = some (some (.builtin "object.__setattr__"))
theorem Cls.get {K : PySem.W.Frag} {C : Addr} (c : Cls K C) (f : Str) : PySem.W.plainGet K C f = true := c.pg
section
variable {X : Cx} {pins : List (Addr × Obj)} {σ : St} {H : Hp} {s : Shared} {a C dx : Addr} {fs : List (Str × V)} {f : Str} {v : V} {A : Around} {E : Value → Shared → Prop}
end
section
variable {X : Cx} {o e value : Expr} {f : Str} {pos pos' tpos : Pos} {ta tv : TE}
end
section
variable {X : Cx} {pins : List (Addr × Obj)} {σ : St} {H : Hp} {s : Shared} {A : Around} {E : Value → Shared → Prop} {Q : Value → Shared → Prop} {c : Value} {b : Bool}
inductive TyOf (K : PySem.W.Frag) (H : Hp) : V → Value → Prop where
  | non : TyOf K H .non (.type "NoneType")
  | bl (x : Bool) : TyOf K H (.bl x) (.type "bool")
  | int (i : Int) : TyOf K H (.int i) (.type "int")
  | str (x : Str) : TyOf K H (.str x) (.type "str")
  | flt (x : UInt64) : TyOf K H (.flt x) (.type "float")
  | lst {a : Addr} {xs : List V} (e : H a = some (.lst xs)) : TyOf K H (.ref a) (.type "list")
  | frz {a : Addr} {o : Obj} {xs : List V} (e : H a = some (.frz o (.lst xs))) : TyOf K H (.ref a) (.type "list")
  | tup {a : Addr} {xs : List V} (e : H a = some (.tup xs)) : TyOf K H (.ref a) (.type "tuple")
  | dK {a : Addr} {kvs : List (Key × V)} (e : H a = some (.dK kvs)) : TyOf K H (.ref a) (.type "dict")
  | dT {a : Addr} {kvs : List (List Key × V)} (e : H a = some (.dT kvs)) : TyOf K H (.ref a) (.type "dict")
  | ins {a C dx : Addr} {fs : List (Str × V)} (e : H a = some (.ins C dx fs)) (cl : Cls K C) (ha : PySem.W.findIn K (.ref C) "__class__" = some (some (.builtin "object.__class__")))
      (hn : PySem.W.specialIn K (.builtin "object.__class__") "__get__" = some (some (.builtin "getset_descriptor.__get__"))) (htk : PySem.W.takesIn K (.builtin "object.__class__") = some true)
      (hm : PySem.W.mroIn K C (.type "object") = some true) : TyOf K H (.ref a) (.ref C)
theorem isinst_ok {x : V} {u t : Value} (I : Inv X pins σ H s) (rx : RelV x u) (ty : TyOf X.K H x t) (e : PySem.W.kitOne X.K t c = some b) (h : ∀ tk, Q (.bool b) { s with toks := tk }) :
    wpAny (model X.prog X.w) A (call (.builtin "isinstance") [u, c]) Q E s := by
  cases ty with
  | non => cases (show u = Value.none from rx); exact PySem.W.kia_one PySem.W.kitx_none I.kIn True.intro e (fun z => nomatch z) h
  | bl y => cases (show u = Value.bool y from rx); exact PySem.W.kia_one PySem.W.kitx_bool I.kIn True.intro e (fun z => nomatch z) h
  | int i => obtain ⟨t, q⟩ := (show ∃ t, u = Value.int i t from rx); cases q; exact PySem.W.kia_one PySem.W.kitx_int I.kIn True.intro e (fun z => nomatch z) h
  | str y => obtain ⟨t, q⟩ := (show ∃ t, u = Value.str y t from rx); cases q; exact PySem.W.kia_one PySem.W.kitx_str I.kIn True.intro e (fun z => nomatch z) h
  | flt y => obtain ⟨t, q⟩ := (show ∃ t, u = Value.float y t from rx); cases q; exact PySem.W.kia_one PySem.W.kitx_float I.kIn True.intro e (fun z => nomatch z) h
  | @lst a xs ea =>
    cases (show u = Value.ref a from rx)
    obtain ⟨_, _, n, _, h1⟩ := (show ObjOk X.prog X.w H s.heap a (.lst xs) from I.hok a _ ea)
    exact PySem.W.kia_one PySem.W.kitx_list I.kIn ⟨_, h1, rfl⟩ e (fun z => nomatch z) h
  | @frz a ob xs ea =>
    cases (show u = Value.ref a from rx)
    obtain ⟨_, _, _, n, _, h1⟩ := (show ObjOk X.prog X.w H s.heap a (.frz ob (.lst xs)) from I.hok a _ ea)
    exact PySem.W.kia_one PySem.W.kitx_list I.kIn ⟨_, h1, rfl⟩ e (fun z => nomatch z) h
  | @tup a xs ea =>
    cases (show u = Value.ref a from rx)
    obtain ⟨_, _, _, p⟩ := (show ObjOk X.prog X.w H s.heap a (.tup xs) from I.hok a _ ea)
    obtain ⟨o, h1, h2, _⟩ := p
    exact PySem.W.kia_one PySem.W.kitx_tuple I.kIn ⟨o, h1, h2⟩ e (fun z => nomatch z) h
  | @dK a kvs ea =>
    cases (show u = Value.ref a from rx)
    obtain ⟨_, _, vs, _, p⟩ := (show ObjOk X.prog X.w H s.heap a (.dK kvs) from I.hok a _ ea)
    obtain ⟨o, es, ep, h1, h2, _⟩ := p
    exact PySem.W.kia_one PySem.W.kitx_dict I.kIn ⟨o, h1, h2.1⟩ e (fun z => nomatch z) h
  | @dT a kvs ea =>
    cases (show u = Value.ref a from rx)
    obtain ⟨_, _, xs, _, o, es, ep, h1, h2, _⟩ := (show ObjOk X.prog X.w H s.heap a (.dT kvs) from I.hok a _ ea)
    exact PySem.W.kia_one PySem.W.kitx_dict I.kIn ⟨o, h1, h2.1⟩ e (fun z => nomatch z) h
  | @ins a C dx fs ea cl ha hn htk hm =>
    cases (show u = Value.ref a from rx)
    obtain ⟨mA, O, _⟩ := ins_get I.hok ea
    obtain ⟨od, J, _⟩ := O.look
    exact PySem.W.kia_one (PySem.W.kitx_own (cl.get _) cl.hd ha hn htk hm) I.kIn J e (fun z => nomatch z) h
end
end L2
namespace L2
open PySem PySem.Spec PyProof.Rows
structure Room (k : Nat) (A : Around) : Prop where
  hd : A.handled = none
  dp : A.depth + 3 * k + 5 < recursionLimit
  un : A.units + 16 * k + 200 < cLine
theorem Room.mono {j k : Nat} {A : Around} (r : Room k A) (h : j ≤ k) : Room j A := ⟨r.hd, by have := r.dp; omega, by have := r.un; omega⟩
theorem Room.deeper {k : Nat} {A : Around} (r : Room (k + 1) A) (env : Env) : Room k (A.deeper env) :=
  ⟨r.hd, by have := r.dp; show A.depth + 1 + 3 * k + 5 < _; omega, by have := r.un; show A.units + 3 + 16 * k + 200 < _; omega⟩
theorem Room.in1 {k : Nat} {A : Around} (r : Room (k + 1) A) : Room k A.in1 :=
  ⟨r.hd, by have := r.dp; show A.depth + 3 * k + 5 < _; omega, by have := r.un; show A.units + 1 + 16 * k + 200 < _; omega⟩
theorem Room.depth {k : Nat} {A : Around} (r : Room k A) : A.depth < recursionLimit := by have := r.dp; omega
theorem Room.units {k : Nat} {A : Around} (r : Room k A) : A.units + 64 < cLine := by have := r.un; omega
def tNil : TA := fun _ H Q => Q [] H
def tCons (ta : TE) (tr : TA) : TA := fun σ H Q => ta σ H fun x H1 => tr σ H1 fun xs H2 => Q (x :: xs) H2
section
variable {X : Cx} {e : Expr} {es : List Expr} {te : TE} {t : TA} {pos : Pos}
theorem pa_nil : PA X [] tNil := fun _ _ _ _ H Q I h => Calls.spliced_nil ⟨[], H, I, .nil, h⟩
theorem pa_cons (ha : PE X e te) (hr : PA X es t) (hs : starEach (e :: es) X.env = (false, eval e X.env) :: starEach es X.env := by rfl) : PA X (e :: es) (tCons te t) := by
  intro pos pins s σ H Q I h
  rw [hs]
  show wpAny _ _ (spliced ((false, eval e X.env) :: backTo pos (starEach es X.env))) _ _ s
  refine Calls.spliced_cons (thn (ha pins s σ H _ I h) fun u s1 ⟨x, H1, I1, r1, q1⟩ => ?_)
  exact thn (hr pos pins s1 σ H1 _ I1 q1) fun us s2 ⟨xs, H2, I2, r2, q2⟩ => ⟨x :: xs, H2, I2, .cons r1 r2, q2⟩
def tTup (t : TA) : TE := fun σ H Q => t σ H fun xs H1 => xs.length ≤ sizeLine ∧ ∀ p, H1 p = none → Q (.ref p) (upd H1 p (.tup xs))
def tLst (t : TA) : TE := fun σ H Q => t σ H fun xs H1 => xs.length ≤ sizeLine ∧ ∀ p, H1 p = none → Q (.ref p) (upd H1 p (.lst xs))
theorem pe_tup {x1} (h : PA X es t) : PE X (.Tuple es x1 pos) (tTup t) := by
  intro pins s σ H Q I hq
  refine wpAny_Tuple_spliced (thn (h pos pins s σ H _ I hq) fun us s1 ⟨xs, H1, I1, r, z, q⟩ => ⟨by rw [← r.length]; exact z, ?_⟩)
  have hf : H1 s1.heap.objs.size = none := I1.hok.fresh (Nat.le_refl _)
  refine ⟨.ref s1.heap.objs.size, upd H1 s1.heap.objs.size (.tup xs), I1.laid (t' := s1.toks) (fun b u e => Heap.get?_push_of_some _ e) (Nat.le_refl _) ?_, rfl, q _ hf⟩
  exact ⟨z, us, r, ⟨_, Heap.get?_push_size _ rfl, rfl, _, rfl⟩⟩
theorem pe_lst (h : PA X es t) : PE X (.List es pos) (tLst t) := by
  intro pins s σ H Q I hq
  refine wpAny_List_spliced (thn (h pos pins s σ H _ I hq) fun us s1 ⟨xs, H1, I1, r, z, q⟩ => ⟨by rw [← r.length]; exact z, ?_⟩)
  have hf : H1 s1.heap.objs.size = none := I1.hok.fresh (Nat.le_refl _)
  refine ⟨.ref s1.heap.objs.size, upd H1 s1.heap.objs.size (.lst xs), I1.laid (t' := s1.toks) (fun b u e => Heap.get?_push_of_some _ e) (Nat.le_refl _) ?_, rfl, q _ hf⟩
  exact ⟨z, us, 0, r, Heap.get?_push_size _ rfl⟩
end
abbrev Sp := List V → Hp → VK → XK → Prop
abbrev CXT := List Env → Hp → Shared → XK → Value → Shared → Prop
structure Env0 (P : Program) (w : World) (K : PySem.W.Frag) (mg : Str → Option Value) (base : Heap) (A : Around) (outer : List Env) (s : Shared) (H : Hp) : Prop where
  frames : A.frames = some outer
  mod : Mod K mg base
  bs : ∀ b o, base.get? b = some o → s.heap.get? b = some o ∧ H b = none
  bsz : base.objs.size ≤ s.heap.objs.size
  funs : s.heap.FunFrames base outer
  frf : ∀ b ∈ frs outer, H b = none
  hok : HOk P w H s.heap
  bare : AllBare s.gens
def CE (outer : List Env) (P : Program) (w : World) (H : Hp) (s : Shared) (Q : VK) (u : Value) (s' : Shared) : Prop :=
  ∃ v H', s'.os = s.os ∧ AllBare s'.gens ∧ Un (frs outer) [] H H' s.heap s'.heap ∧ HOk P w H' s'.heap ∧ RelV v u ∧ Q v H'
def CR (CX : CXT) (outer : List Env) (P : Program) (w : World) (H : Hp) (s : Shared) (Q : VK) (E : XK) (r : Result) (s' : Shared) : Prop :=
  match r with
  | .ok (.ret u) => CE outer P w H s Q u s'
  | .ok _ => False
  | .error e => CX outer H s E e s'
structure FnOk (P : Program) (w : World) (K : PySem.W.Frag) (mg : Str → Option Value) (base : Heap) (CX : CXT) (k : Nat) (f : Addr) (fd : FuncData) (ps : List Str) (sp : Sp) : Prop where
  len : ∀ vs H Q E, sp vs H Q E → vs.length = ps.length
  run : ∀ (A : Around) (outer : List Env) (s : Shared) (H : Hp) (args : Args) (us : List Value) (vs : List V) (Q : VK) (E : XK), Room k A → Env0 P w K mg base A outer s H → BindsTo s fd args (ps.zip us) → Vals vs us → sp vs H Q E →
    codeAny (model P w) A (.call (.ref f) args) (CR CX outer P w H s Q E) s
theorem FnOk.mono {P : Program} {w : World} {K : PySem.W.Frag} {mg : Str → Option Value} {base : Heap} {CX : CXT} {j k : Nat} {f : Addr} {fd : FuncData} {ps : List Str} {sp : Sp} (F : FnOk P w K mg base CX j f fd ps sp) (h : j ≤ k) :
    FnOk P w K mg base CX k f fd ps sp := ⟨F.len, fun A outer s H args us vs Q E hr => F.run A outer s H args us vs Q E (hr.mono h)⟩
theorem FnOk.imp {P : Program} {w : World} {K : PySem.W.Frag} {mg : Str → Option Value} {base : Heap} {CX : CXT} {k : Nat} {f : Addr} {fd : FuncData} {ps : List Str} {sp sp' : Sp} (F : FnOk P w K mg base CX k f fd ps sp)
    (h : ∀ vs H Q E, sp' vs H Q E → sp vs H Q E) : FnOk P w K mg base CX k f fd ps sp' :=
  ⟨fun vs H Q E q => F.len vs H Q E (h _ _ _ _ q), fun A outer s H args us vs Q E hr he hb hv hs => F.run A outer s H args us vs Q E hr he hb hv (h _ _ _ _ hs)⟩
theorem Env0.in1 {P : Program} {w : World} {K : PySem.W.Frag} {mg : Str → Option Value} {base : Heap} {A : Around} {outer : List Env} {s : Shared} {H : Hp} (e : Env0 P w K mg base A outer s H) :
    Env0 P w K mg base A.in1 outer s H := ⟨e.frames, e.mod, e.bs, e.bsz, e.funs, e.frf, e.hok, e.bare⟩
section
variable {X : Cx} {pins : List (Addr × Obj)} {σ : St} {H : Hp} {s s' : Shared}
theorem Inv.env0 (I : Inv X pins σ H s) : Env0 X.prog X.w X.K X.mg X.base X.A X.stack s H :=
  ⟨I.ok.frames, I.ok.mod, I.bs, Nat.le_trans I.ok.bsz I.sz, I.stack, I.stkFree, I.hok, I.bare⟩
theorem Inv.after {Q : VK} {u : Value} (I : Inv X pins σ H s) (h : CE X.stack X.prog X.w H s Q u s') : EP X pins σ Q u s' := by
  obtain ⟨v, H', os, bare, un, hok, r, q⟩ := h
  obtain ⟨hh, g, d, t, os'⟩ := s'
  obtain rfl : os' = s.os := os
  exact ⟨v, H', I.call (h' := hh) (g' := g) (d' := d) (t' := t) (ch := []) un hok bare (fun b z => absurd z (by simp)), r, q⟩
end
def tCall (sp : Sp) (dvs : List V) (E : XK) (t : TA) : TE := fun σ H Q => t σ H fun vs H1 => sp (vs ++ dvs) H1 Q E
def Binds (K : PySem.W.Frag) (fd : FuncData) (ps : List Str) (ds : List Value) : Prop :=
  ∀ (s : Shared) (us : List Value), K.In s.heap → (us ++ ds).length = ps.length → BindsTo s fd ⟨us, []⟩ (ps.zip (us ++ ds))
theorem Binds.all {K : PySem.W.Frag} {fd : FuncData} {ps : List Str} (h : ∀ us : List Value, us.length = ps.length → bindArgs fd ⟨us, []⟩ = pure (ps.zip us)) : Binds K fd ps [] := fun s us _ hl => by
  rw [List.append_nil] at hl ⊢
  exact .of_eq (h us hl)
def Passes (CX : CXT) (X : Cx) (E : XK) : Prop := ∀ (pins : List (Addr × Obj)) (σ : St) (H : Hp) (s : Shared) (e : Value) (s' : Shared), Inv X pins σ H s → CX X.stack H s E e s' → X.xe e s'
section
variable {X : Cx} {CX : CXT} {k : Nat} {f C : Addr} {fd : FuncData} {ps : List Str} {sp : Sp} {dvs : List V} {ds : List Value} {E : XK} {x m : Str} {p pos apos : Pos} {e o : Expr} {es : List Expr} {ta : TE} {t : TA}
theorem run_fn {pins : List (Addr × Obj)} {σ : St} {H : Hp} {s : Shared} {Q : VK} {us : List Value} {vs : List V} (F : FnOk X.prog X.w X.K X.mg X.base CX k f fd ps sp) (hr : Room k X.A) (hb : Binds X.K fd ps ds) (hd : Vals dvs ds) (hx : Passes CX X E)
    (I : Inv X pins σ H s) (r : Vals vs us) (h : sp (vs ++ dvs) H Q E) : wpAny (model X.prog X.w) X.A (call (.ref f) us) (EP X pins σ Q) X.xe s := by
  have r2 : Vals (vs ++ dvs) (us ++ ds) := r.append hd
  have hl : (us ++ ds).length = ps.length := by rw [← r2.length]; exact F.len _ _ _ _ h
  refine wpAny_call (codeAny_mono (F.run X.A X.stack s H ⟨us, []⟩ (us ++ ds) (vs ++ dvs) Q E hr I.env0 (hb s us I.kIn hl) r2 h) fun r s' hq => ?_)
  cases r with
  | error e => exact hx pins σ H s e s' I hq
  | ok fl =>
    cases fl with
    | ret u => exact I.after hq
    | next => exact False.elim hq
    | brk => exact False.elim hq
    | cont => exact False.elim hq
theorem pe_call (F : FnOk X.prog X.w X.K X.mg X.base CX k f fd ps sp) (hr : Room k X.A) (hg : Gl X x) (hm : X.mg x = some (.ref f)) (hk : PySem.W.keepIn X.K (.ref f) = true) (hb : Binds X.K fd ps ds) (hd : Vals dvs ds) (hx : Passes CX X E)
    (ha : PA X (e :: es) t) (hdb : (x == ("__debug__" : Str)) = false := by decide) (he : starEach (e :: es) X.env = (false, eval e X.env) :: starEach es X.env := by rfl) (hpl : (backTo pos (starEach es X.env)).any (·.1) = false := by rfl) :
    PE X (.Call (.Name x p) (e :: es) [] pos) (tCall sp dvs E t) := by
  intro pins s σ H Q I h
  refine wpAny_Call_Name_kw (ld_glob I hg hm ?_ hdb)
  refine PySem.W.callWith_K (h₀ := X.base) I.ok.mod.kin hk (thn (ha pos pins s σ H _ I h) fun us s1 ⟨vs, H1, I1, r, q⟩ => ⟨I1.kIn, ?_⟩) he hpl
  exact run_fn F hr hb hd hx I1 r q
end
section
variable {X : Cx} {CX : CXT} {k : Nat} {f C : Addr} {fd : FuncData} {ps ks : List Str} {sp : Sp} {E : XK} {x m : Str} {p pos apos kpos : Pos} {e o : Expr} {es : List Expr} {kws : List Keyword} {te ta : TE} {t tk : TA} {nm : Option Str}
variable {g : List Value → List Value → List Value} {gV : List V → List V → List V}
end
structure FnScope (N P : List Str) (sc : Scope) : Prop where
  kind : sc.kind = .function
  co : sc.isCoroutine = false
  gen : sc.isGenerator = false
  nd : N.Nodup
  pre : N.take P.length = P
  par : ∀ x ∈ P, sc.names.lookup x = some .local ∨ sc.names.lookup x = some .cell
  nofree : ∀ y ∈ sc.names, y.2 ≠ .free
theorem bindL_out {kindOf : Str → Option NameKind} {x : Str} : ∀ {binds : List (Str × Value)} {m : Str → Option Value}, (∀ v, (x, v) ∉ binds) → bindL kindOf binds m x = m x
  | [], _, _ => rfl
  | (n, v) :: r, m, h => by
    unfold bindL
    rw [bindL_out fun w hw => h w (List.mem_cons_of_mem _ hw)]
    split
    · have : x ≠ n := by rintro rfl; exact h v List.mem_cons_self
      simp [this]
    · rfl
theorem bindC_out {kindOf : Str → Option NameKind} {x : Str} : ∀ {binds : List (Str × Value)} {m : Str → Option Value}, (∀ v, (x, v) ∉ binds) → bindC kindOf binds m x = m x
  | [], _, _ => rfl
  | (n, v) :: r, m, h => by
    unfold bindC
    rw [bindC_out fun w hw => h w (List.mem_cons_of_mem _ hw)]
    split
    · rfl
    · have : x ≠ n := by rintro rfl; exact h v List.mem_cons_self
      simp [this]
theorem bindL_get {kindOf : Str → Option NameKind} {x : Str} {v : Value} : ∀ {P : List Str} {vs : List Value} {i : Nat} {m : Str → Option Value}, P.Nodup → P[i]? = some x → vs[i]? = some v → kindOf x = some .local →
    bindL kindOf (P.zip vs) m x = some v
  | [], _, _, _, _, h, _, _ => by simp at h
  | _ :: _, [], _, _, _, _, h, _ => by simp at h
  | p :: P, w :: vs, 0, m, nd, h1, h2, hk => by
    simp at h1 h2; subst h1; subst h2
    show bindL kindOf ((p, w) :: P.zip vs) m p = _
    unfold bindL
    rw [bindL_out fun v hv => (List.nodup_cons.mp nd).1 (List.of_mem_zip hv).1, if_pos hk]
    simp
  | p :: P, w :: vs, i + 1, m, nd, h1, h2, hk => by
    show bindL kindOf ((p, w) :: P.zip vs) m x = _
    unfold bindL
    exact bindL_get (i := i) (List.nodup_cons.mp nd).2 (by simpa using h1) (by simpa using h2) hk
theorem bindC_get {kindOf : Str → Option NameKind} {x : Str} {v : Value} : ∀ {P : List Str} {vs : List Value} {i : Nat} {m : Str → Option Value}, P.Nodup → P[i]? = some x → vs[i]? = some v → kindOf x ≠ some .local →
    bindC kindOf (P.zip vs) m x = some v
  | [], _, _, _, _, h, _, _ => by simp at h
  | _ :: _, [], _, _, _, _, h, _ => by simp at h
  | p :: P, w :: vs, 0, m, nd, h1, h2, hk => by
    simp at h1 h2; subst h1; subst h2
    show bindC kindOf ((p, w) :: P.zip vs) m p = _
    unfold bindC
    rw [bindC_out fun v hv => (List.nodup_cons.mp nd).1 (List.of_mem_zip hv).1, if_neg hk]
    simp
  | p :: P, w :: vs, i + 1, m, nd, h1, h2, hk => by
    show bindC kindOf ((p, w) :: P.zip vs) m x = _
    unfold bindC
    exact bindC_get (i := i) (List.nodup_cons.mp nd).2 (by simpa using h1) (by simpa using h2) hk
def start (N : List Str) (vs : List V) : St := vs.map some ++ List.replicate (N.length - vs.length) none
def cxOf (CX : CXT) (P : Program) (w : World) (K : PySem.W.Frag) (mg : Str → Option Value) (base : Heap) (N : List Str) (qual : Str) (scope : Scope) (f : Addr) (cd : Value) (A : Around) (outer : List Env) (s : Shared) (H : Hp) (E : XK) : Cx where
  prog := P
  w := w
  K := K
  mg := mg
  base := base
  A := A.deeper (envOfC qual scope s.heap.objs.size f cd)
  N := N
  s₀ := s
  H₀ := H
  env := envOfC qual scope s.heap.objs.size f cd
  outer := outer
  stack := envOfC qual scope s.heap.objs.size f cd :: outer
  ex := []
  calm := true
  fn := fun _ => true
  pn := []
  xe := fun e s' => wpAny (model P w) (A.deeper (envOfC qual scope s.heap.objs.size f cd)) (leaving (envOfC qual scope s.heap.objs.size f cd) e) (fun _ s'' => CX outer H s E e s'') (fun e' s'' => CX outer H s E e' s'') s'
theorem cell_has {sc : Scope} {n : Nat} {x : Str} (h : sc.names.lookup x = some .cell) : ∃ c, (cellsFrom n sc.names []).lookup x = some c := by
  have q := PySem.W.cellsFrom_some sc.names n [] (.inl h)
  exact Option.isSome_iff_exists.mp q
theorem inv_start {CX : CXT} {P : Program} {w : World} {K : PySem.W.Frag} {mg : Str → Option Value} {base : Heap} {N ps : List Str} {qual : Str} {scope : Scope} {f : Addr} {cd : Value} {A : Around} {outer : List Env} {s s1 : Shared} {H : Hp} {E : XK} {us : List Value} {vs : List V}
    (S : FnScope N ps scope) (hd : A.handled = none) (e0 : Env0 P w K mg base A outer s H) (hl : vs.length = ps.length) (r : Vals vs us)
    (x : InCallC s s.heap.objs.size (bindL (envOfC qual scope s.heap.objs.size f cd).kindOf (ps.zip us) fun _ => none) (cellsFrom (s.heap.objs.size + 1) scope.names []) (bindC (envOfC qual scope s.heap.objs.size f cd).kindOf (ps.zip us) fun _ => none) s1) :
    Inv (cxOf CX P w K mg base N qual scope f cd A outer s H E) [] (start N vs) H s1 := by
  have hpl : ps.length ≤ N.length := by have := congrArg List.length S.pre; rw [List.length_take] at this; omega
  obtain ⟨h1, tk, rfl, hk⟩ := x.done
  have noA : ∀ b : Addr, b ∉ (cxOf CX P w K mg base N qual scope f cd A outer s H E).ex := fun b z => absurd (show b ∈ ([] : List Addr) from z) (by simp)
  refine ⟨⟨e0.mod, S.kind, rfl, rfl, Nat.le_refl _, fun y z c h1 h2 => ?_, fun y hy => ?_, fun y c _ h => ?_, fun _ => hd, Around.frames_deeper e0.frames, .inr ⟨rfl, rfl⟩, fun b z => absurd z (noA b), e0.bs, e0.bsz, fun b _ _ => noA b, fun b z => absurd z (noA b), e0.funs, e0.frf⟩,
    rfl, e0.bare, Un.kept hk, ⟨_, x.toInCall.ns, fun i y v h1 h2 h3 => ?_⟩, fun y c h => ⟨_, x.cell y c h⟩, e0.hok.fresh (Nat.le_refl _), fun y c h => ?_, fun p hp => absurd (show p ∈ ([] : List (Addr × Obj)) from hp) (by simp), e0.hok.kept hk, ?_⟩
  · exact name_of_addr x.apart (PySem.mem_of_lookup h1) (PySem.mem_of_lookup h2)
  · have hy : scope.names.lookup y = some .cell ∨ scope.names.lookup y = some .free := hy
    rcases hy with hy | hy
    · exact cell_has hy
    · exact absurd rfl (S.nofree _ (PySem.mem_of_lookup hy))
  · exact Nat.le_of_lt (x.above y c (PySem.mem_of_lookup h))
  · have hi : i < vs.length := by
      unfold start at h2
      by_cases hi : i < vs.length
      · exact hi
      · rw [List.getElem?_append_right (by simpa using hi)] at h2
        rw [List.getElem?_replicate] at h2
        split at h2 <;> cases h2
    have ha : vs[i]? = some v := by
      unfold start at h2
      rw [List.getElem?_append_left (by simpa using hi), List.getElem?_map] at h2
      cases e : vs[i]? with
      | none => rw [e] at h2; cases h2
      | some a => rw [e] at h2; cases h2; rfl
    obtain ⟨u, hu, rv⟩ := r.get ha
    have hp : ps[i]? = some y := by
      rw [← S.pre, List.getElem?_take_of_lt (by omega)]; exact h1
    have ndP : ps.Nodup := by rw [← S.pre]; exact S.nd.sublist (List.take_sublist _ _)
    refine ⟨u, rv, ?_⟩
    rcases S.par y (List.mem_of_getElem? hp) with k | k
    · exact .inl ⟨k, bindL_get ndP hp hu k⟩
    · obtain ⟨c, e⟩ := cell_has (n := s.heap.objs.size + 1) k
      refine .inr ⟨.inl k, c, e, ?_⟩
      have q := x.cell y c e
      rw [bindC_get ndP hp hu (by show scope.names.lookup y ≠ _; rw [k]; decide)] at q
      exact q
  · exact e0.hok.fresh (Nat.le_of_lt (x.above y c (PySem.mem_of_lookup h)))
  · unfold start
    show _ = N.length
    rw [List.length_append, List.length_map, List.length_replicate]
    omega
theorem fn_of {CX : CXT} {P : Program} {w : World} {K : PySem.W.Frag} {mg : Str → Option Value} {base : Heap} {k : Nat} {f : Addr} {name qual : Str} {params : Arguments} {body : List Stmt} {scope : Scope} {dV kV doc pm cdv ct oc : Value} {an od : Option Addr}
    {osl : Array (Option Value)} {N ps : List Str} {sp : Sp} (lk : K.lookup f = some ⟨oc, od, .func (PySem.W.fnOf name qual params body scope dV kV doc pm an cdv ct), osl⟩) (hcd : PySem.W.codeIn K cdv qual = true) (S : FnScope N ps scope)
    (len : ∀ vs H Q E, sp vs H Q E → vs.length = ps.length)
    (hbody : ∀ (A : Around) (outer : List Env) (s : Shared) (H : Hp) (vs : List V) (Q : VK) (E : XK), Room k (A.deeper (envOfC qual scope s.heap.objs.size f cdv)) → sp vs H Q E →
      ∃ t, PSs (cxOf CX P w K mg base N qual scope f cdv A outer s H E) body t ∧ t { nx := fun _ H' => Q .non H', rt := Q } (start N vs) H) :
    FnOk P w K mg base CX (k + 1) f (PySem.W.fnOf name qual params body scope dV kV doc pm an cdv ct) ps sp := by
  refine ⟨len, fun A outer s H args us vs Q E hr e0 hb r hsp => ?_⟩
  have hl := len _ _ _ _ hsp
  have KX : K.In s.heap := e0.mod.kin.keeps fun b o e => (e0.bs b o e).1
  have lim : s.heap.NoLimit := e0.mod.nolimit.keeps fun b o e => (e0.bs b o e).1
  have hkind : ∀ y ∈ ps.zip us, scope.names.lookup y.1 = some .local ∨ (scope.names.lookup y.1 = some .cell ∧ ((cellsFrom (s.heap.objs.size + 1) scope.names []).lookup y.1).isSome = true) := fun ⟨n, v⟩ hy => by
    rcases S.par n (List.of_mem_zip hy).1 with q | q
    · exact .inl q
    · exact .inr ⟨q, PySem.W.cellsFrom_some _ _ _ (.inl q)⟩
  refine codeAny_call_function hr.depth (KX _ _ lk) rfl S.co S.gen rfl (PySem.W.codeRec_of KX hcd) (hb _ _ _ _ ?_)
  refine wpAny_newFunctionEnv_cells S.kind hkind fun env he s1 x => ?_
  subst he
  refine ⟨lim.keeps x.toInCall.keep, codeAny_func ?_⟩
  obtain ⟨t, ht, hq⟩ := hbody A outer s H vs Q E (hr.deeper _) hsp
  have I : Inv (cxOf CX P w K mg base N qual scope f cdv A outer s H E) [] (start N vs) H s1 := inv_start S hr.hd e0 hl r x
  refine wpAny_mono (ht [] s1 (start N vs) H _ I hq) (fun fl s' hs => ?_) fun e s' hs => hs
  have fin : ∀ {σ' : St} {H' : Hp} {v : V} {u : Value}, Inv (cxOf CX P w K mg base N qual scope f cdv A outer s H E) [] σ' H' s' → RelV v u → Q v H' → CE outer P w H s Q u s' :=
    fun {σ' H' v u} J rv q => ⟨v, H', J.os, J.bare, J.base, J.hok, rv, q⟩
  cases fl with
  | ret u =>
    obtain ⟨v, σ', H', J, rv, q⟩ := hs
    exact fin J rv q
  | next =>
    obtain ⟨σ', H', J, q⟩ := hs
    exact fin (v := V.non) (u := Value.none) J rfl q
  | brk =>
    obtain ⟨_, _, _, q⟩ := hs
    exact False.elim q
  | cont =>
    obtain ⟨_, _, _, q⟩ := hs
    exact False.elim q
end L2
namespace L2
open PySem PySem.Spec PyProof.Rows
section
variable {X : Cx} {x : Str} {p pos : Pos} {e : Expr} {es : List Expr} {t : TA} {id T : String} {r : List V → Hp → VK → Prop}
def tCB (r : List V → Hp → VK → Prop) (t : TA) : TE := fun σ H Q => t σ H fun vs H1 => r vs H1 Q
theorem pe_callB (hc : CallR X (.builtin id) r) (hg : Gl X x) (hm : X.mg x = none) (hv : bootBuiltins x = some (.builtin id)) (ha : PA X (e :: es) t) (hn : x ≠ "__name__" := by decide) (hdb : (x == ("__debug__" : Str)) = false := by decide)
    (he : starEach (e :: es) X.env = (false, eval e X.env) :: starEach es X.env := by rfl) (hpl : (backTo pos (starEach es X.env)).any (·.1) = false := by rfl) : PE X (.Call (.Name x p) (e :: es) [] pos) (tCB r t) := by
  intro pins s σ H Q I h
  refine wpAny_Call_Name_kw (ld_blt I hg hm hv ?_ hn hdb)
  exact PyProof.Rows.callWith_builtin1 (thn (ha pos pins s σ H _ I h) fun us s1 ⟨vs, H1, I1, r1, q1⟩ => hc pins s1 σ H1 vs us Q I1 r1 q1) he hpl
theorem pe_callTy (hc : CallR X (.type T) r) (hg : Gl X x) (hm : X.mg x = none) (hv : bootBuiltins x = some (.type T)) (ha : PA X (e :: es) t) (hn : x ≠ "__name__" := by decide) (hdb : (x == ("__debug__" : Str)) = false := by decide)
    (he : starEach (e :: es) X.env = (false, eval e X.env) :: starEach es X.env := by rfl) (hpl : (backTo pos (starEach es X.env)).any (·.1) = false := by rfl) : PE X (.Call (.Name x p) (e :: es) [] pos) (tCB r t) := by
  intro pins s σ H Q I h
  refine wpAny_Call_Name_kw (ld_blt I hg hm hv ?_ hn hdb)
  exact PyProof.Rows.callWith_type1 (thn (ha pos pins s σ H _ I h) fun us s1 ⟨vs, H1, I1, r1, q1⟩ => hc pins s1 σ H1 vs us Q I1 r1 q1) he hpl
end
end L2
namespace HT
open PySem PyProof.Rows
section
open PySem.SeqAt
open PySem.AutoSeq1 (wpAny_loadPart')
open PySem.MeetsSeq PySem.MeetsSeq2 PySem.MeetsSeq3
end
section
variable {prog : Program} {w : World} {A : Around} {E : Value → Shared → Prop} {s : Shared}
theorem cat_tup {t b : Addr} {vs ws : List Value} {Q : Value → Shared → Prop} (ht : IsTup s.heap t vs.toArray) (hb : IsTup s.heap b ws.toArray) (hv : vs ≠ [])
    (h1 : ws = [] → Q (.ref t) s) (h2 : ws ≠ [] → Q (.ref s.heap.objs.size) { s with heap := s.heap.push { cls := .type "tuple", data := .seq (vs ++ ws).toArray } })
    (hsz : vs.length + ws.length ≤ sizeLine) : wpAny (model prog w) A (binaryOp .Add (.ref t) (.ref b)) Q E s := by
  obtain ⟨⟨cls, dd, data, sl⟩, ho, hc, n, hd⟩ := id ht
  obtain ⟨⟨cls2, dd2, data2, sl2⟩, ho2, hc2, n2, hd2⟩ := id hb
  simp only at hc hd hc2 hd2
  subst hc hd hc2 hd2
  have e : vs.toArray ++ ws.toArray = (vs ++ ws).toArray := by simp
  by_cases hw : ws = []
  · exact concat_meets ⟨_, ho, rfl⟩ ⟨_, ho2, rfl⟩ noFill_tuple_add seq_tuple_add PySem.F.slot_tuple_add PySem.F.entry_tuple_add (PySem.F.args_tuple_add_2 _ _)
      (tuple_addW1 t b vs.toArray ws.toArray n n2 dd dd2 sl sl2 (by simpa using hv) (by simp [hw])) ⟨ho, ho2, h1 hw⟩
  · refine concat_meets ⟨_, ho, rfl⟩ ⟨_, ho2, rfl⟩ noFill_tuple_add seq_tuple_add PySem.F.slot_tuple_add PySem.F.entry_tuple_add (PySem.F.args_tuple_add_2 _ _)
      (tuple_addW2 t b vs.toArray ws.toArray n n2 dd dd2 sl sl2 (by simpa using hv) (by simpa using hw) (by rw [List.size_toArray, List.size_toArray]; exact hsz)) ⟨ho, ho2, ?_⟩
    rw [e]
    exact h2 hw
def sIx (n d : Nat) : Option Int → Nat
  | none => d
  | some v => if v < 0 then (v + (n : Int)).toNat else min v.toNat n
theorem sIx_none (n d : Nat) : sIx n d none = d := rfl
theorem sIx_nat (n d k : Nat) : sIx n d (some (k : Int)) = min k n := by
  show (if (k : Int) < 0 then ((k : Int) + (n : Int)).toNat else min (k : Int).toNat n) = min k n
  rw [if_neg (by omega), Int.toNat_natCast]
theorem sIx_le (n d : Nat) (hd : d ≤ n) (o : Option Int) : sIx n d o ≤ n := by
  cases o with
  | none => exact hd
  | some v =>
    show (if v < 0 then (v + (n : Int)).toNat else min v.toNat n) ≤ n
    by_cases hv : v < 0
    · rw [if_pos hv]; omega
    · rw [if_neg hv]; exact Nat.min_le_right _ _
theorem clip_eq (v : Int) (n d : Nat) : (if v < 0 then max (v + (n : Int)) 0 else min v (n : Int)) = ((sIx n d (some v) : Nat) : Int) := by
  show (if v < 0 then max (v + (n : Int)) 0 else min v (n : Int)) = (((if v < 0 then (v + (n : Int)).toNat else min v.toNat n) : Nat) : Int)
  by_cases hv : v < 0
  · simp only [if_pos hv]; omega
  · simp only [if_neg hv]; omega
theorem adjust_gen (lo hi : Option Int) (n : Nat) : Builtin.Slice.sliceAdjust lo hi 1 (n : Int) = (((sIx n 0 lo : Nat) : Int), ((sIx n n hi : Nat) : Int)) := by
  have h1 : ¬ ((1 : Int) < 0) := by omega
  unfold Builtin.Slice.sliceAdjust
  simp only [h1, if_false]
  refine Prod.ext ?_ ?_
  · cases lo with
    | none => rfl
    | some v => exact clip_eq v n 0
  · cases hi with
    | none => rfl
    | some v => exact clip_eq v n n
theorem places_gen (i j : Nat) : Builtin.Slice.slicePlaces (i : Int) (j : Int) 1 = j - i := by
  unfold Builtin.Slice.slicePlaces
  have h1 : (1 : Int) > 0 := by omega
  simp only [h1, if_true, Int.ediv_one]
  split <;> omega
theorem slicePart_ {v : Value} {o : Option Int} {Q : Option Int → Shared → Prop} (p : IsPart v o) (h : Q o s) : wpAny (model prog w) A (Builtin.Slice.slicePartIndex v) Q E s := by
  cases p with
  | none => exact slicePart_none h
  | int i t => exact slicePart_int h
theorem sliceApplied_gen {sl : Addr} {vl vu : Value} {lo hi : Option Int} {n : Nat} {Q : Int × Int × Nat → Shared → Prop} (hs : s.heap.IsSliceOf sl vl vu .none) (pl : IsPart vl lo) (pu : IsPart vu hi)
    (h : Q (((sIx n 0 lo : Nat) : Int), 1, sIx n n hi - sIx n 0 lo) s) : wpAny (model prog w) A (Builtin.Slice.sliceApplied (.ref sl) (pure (n : Int))) Q E s := by
  obtain ⟨os, hos, hcs, hds⟩ := id hs
  unfold Builtin.Slice.sliceApplied Builtin.Slice.sliceFields
  refine wpAny_bind (wpAny_bind (wpAny_field hos hds (x := vl) rfl (wpAny_bind (wpAny_field hos hds (x := vu) rfl (wpAny_bind (wpAny_field hos hds (x := .none) rfl (wpAny_pure ?_)))))))
  refine wpAny_bind (slicePart_none ?_)
  show wpAny _ _ (if ((1 : Int) == 0) = true then _ else _) _ _ s
  rw [if_neg (by decide)]
  refine wpAny_bind (slicePart_ pl (wpAny_bind (slicePart_ pu (wpAny_bind (wpAny_pure ?_)))))
  show wpAny _ _ (match Builtin.Slice.sliceAdjust lo hi 1 (n : Int) with | (lo, hi) => pure (lo, (1 : Int), Builtin.Slice.slicePlaces lo hi 1)) _ _ s
  rw [adjust_gen lo hi n]
  show wpAny _ _ (pure (((sIx n 0 lo : Nat) : Int), (1 : Int), Builtin.Slice.slicePlaces ((sIx n 0 lo : Nat) : Int) ((sIx n n hi : Nat) : Int) 1)) _ _ s
  rw [places_gen]
  exact wpAny_pure h
theorem pick_gen (xs : Array Value) (i k : Nat) : ((List.range k).filterMap fun (m : Nat) => xs[((i : Int) + (m : Int) * 1).toNat]?).toArray = ((xs.toList.drop i).take k).toArray := by
  have e : (fun (m : Nat) => xs[((i : Int) + (m : Int) * 1).toNat]?) = fun m => xs[i + m]? := by
    funext m
    have : ((i : Int) + (m : Int) * 1).toNat = i + m := by omega
    rw [this]
  rw [e]
  have := pick_run xs i k
  rw [List.filterMap_map] at this
  have e2 : ((fun x => xs[x]?) ∘ fun x => i + x) = fun m => xs[i + m]? := rfl
  rw [e2] at this
  rw [this]
theorem getItem_tuple_cut {t sl : Addr} {items : Array Value} {vl vu : Value} {lo hi : Option Int} {Q : Value → Shared → Prop} (ht : IsTup s.heap t items) (hs : s.heap.IsSliceOf sl vl vu .none) (pl : IsPart vl lo) (pu : IsPart vu hi)
    (hw : ¬ (sIx items.size 0 lo = 0 ∧ sIx items.size items.size hi = items.size))
    (h : Q (.ref s.heap.objs.size) { s with heap := s.heap.push { cls := .type "tuple", data := .seq ((items.toList.drop (sIx items.size 0 lo)).take (sIx items.size items.size hi - sIx items.size 0 lo)).toArray } })
    (hsz : items.size ≤ sizeLine) : wpAny (model prog w) A (getItem (.ref t) (.ref sl)) Q E s := by
  have htake : sizeOk (.seq ((items.toList.drop (sIx items.size 0 lo)).take (sIx items.size items.size hi - sIx items.size 0 lo)).toArray) := by
    show ((items.toList.drop (sIx items.size 0 lo)).take (sIx items.size items.size hi - sIx items.size 0 lo)).toArray.size ≤ sizeLine
    rw [List.size_toArray, List.length_take, List.length_drop, Array.length_toList]
    omega
  have hj : sIx items.size items.size hi ≤ items.size := sIx_le _ _ (Nat.le_refl _) hi
  obtain ⟨os, hos, hcs, hds⟩ := id hs
  have hTs : s.TypeIs (.ref sl) "slice" := ⟨os, hos, hcs⟩
  unfold getItem
  try with_reducible refine wpAny_holding ?_
  first | refine wpAny_bind (wpAny_pure ?_) | skip
  refine wpAny_bind (wpAny_sequenceKey ht.typeIs (by decide) ?_)
  refine wpAny_bind (wpAny_callSpecial?_slot (name := Str.ofString "__getitem__") ht.typeIs PyProof.Rows.slot_tuple_getitem
    (wpAny_call_entry PyProof.Rows.slot_tuple_getitem ht.typeIs entry_tuple_getitem ?_ (args_tuple_getitem _ _)))
  show wpAny _ _ (Builtin.Tuple.tupleItemsOf (.ref t) >>= _) _ _ s
  refine wpAny_bind (tupleItemsOf_ ht ?_)
  refine wpAny_bind (wpAny_typeOf hTs ?_)
  rw [if_pos (by decide)]
  refine wpAny_bind (sliceApplied_gen hs pl pu ?_)
  have hno : ¬ ((((sIx items.size 0 lo : Nat) : Int) == 0 && (1 : Int) == 1 && (sIx items.size items.size hi - sIx items.size 0 lo) == items.size) = true) := by
    intro q
    rw [Bool.and_eq_true, Bool.and_eq_true] at q
    have q1 : ((sIx items.size 0 lo : Nat) : Int) = 0 := eq_of_beq q.1.1
    have q2 : sIx items.size items.size hi - sIx items.size 0 lo = items.size := eq_of_beq q.2
    exact hw ⟨by omega, by omega⟩
  show wpAny _ _ (if (((sIx items.size 0 lo : Nat) : Int) == 0 && (1 : Int) == 1 && (sIx items.size items.size hi - sIx items.size 0 lo) == items.size) = true then _ else _) _ _ s
  rw [if_neg hno, pick_gen]
  first
    | exact wpAny_bind (m := Builtin.Tuple.tupleExact _) (wpAny_newObj_type (wpAny_pure ⟨_, rfl, wpAny_pure h⟩) htake)
    | exact wpAny_bind (m := Builtin.Tuple.tupleExact _) (wpAny_newObj_type (wpAny_bind (wpAny_pure (wpAny_pure ⟨_, rfl, wpAny_pure h⟩))) htake)
    | exact wpAny_bind (wpAny_bind (m := Builtin.Tuple.tupleExact _) (wpAny_newObj_type (wpAny_pure (wpAny_pure ⟨_, rfl, wpAny_pure h⟩)) htake))
    | exact wpAny_bind (wpAny_bind (m := Builtin.Tuple.tupleExact _) (wpAny_newObj_type (wpAny_pure ⟨_, rfl, wpAny_pure h⟩) htake))
end
end HT
namespace L2
open PySem PySem.Spec PyProof.Rows
abbrev TO := St → Hp → (Option Int → Hp → Prop) → Prop
def PO (X : Cx) (e : Option Expr) (t : TO) : Prop :=
  ∀ (pins : List (Addr × Obj)) (s : Shared) (σ : St) (H : Hp) (Q : Option Int → Hp → Prop), Inv X pins σ H s → t σ H Q →
    wpAny (model X.prog X.w) X.A (evalPart e X.env) (fun u s' => ∃ o H', Inv X pins σ H' s' ∧ IsPart u o ∧ Q o H') X.xe s
def tNoPart : TO := fun _ H Q => Q none H
def tPart (t : TE) : TO := fun σ H Q => t σ H fun x H1 => ∃ i, x = .int i ∧ Q (some i) H1
section
variable {X : Cx} {e : Expr} {te : TE} {lo hi : Option Expr} {tl th : TO} {pos p2 : Pos}
theorem po_none : PO X none tNoPart := by
  intro pins s σ H Q I h
  rw [evalPart_none]
  exact wpAny_pure ⟨none, H, I, .none, h⟩
theorem po_some (h : PE X e te) : PO X (some e) (tPart te) := by
  intro pins s σ H Q I hw
  rw [evalPart_some]
  refine thn (h pins s σ H _ I hw) fun u s1 ⟨x, H1, I1, r1, q1⟩ => ?_
  obtain ⟨i, rfl, q⟩ := q1
  obtain ⟨t, rfl⟩ := r1
  exact ⟨some i, H1, I1, .int i t, q⟩
def SlR (X : Cx) (r : V → Option Int → Option Int → Hp → VK → Prop) : Prop :=
  ∀ (pins : List (Addr × Obj)) (s : Shared) (σ : St) (H : Hp) (x : V) (v vl vu : Value) (lo hi : Option Int) (sl : Addr) (Q : VK), Inv X pins σ H s → RelV x v → s.heap.IsSliceOf sl vl vu .none → IsPart vl lo → IsPart vu hi → r x lo hi H Q →
    ∃ T id, typeLookup (.type T) "__getitem__" = pure (some (.builtin id)) ∧ s.TypeIs v T ∧ wpAny (model X.prog X.w) X.A (getItem v (.ref sl)) (EP X pins σ Q) X.xe s
theorem SlR.or {r r' : V → Option Int → Option Int → Hp → VK → Prop} (h : SlR X r) (h' : SlR X r') : SlR X (fun x lo hi H Q => r x lo hi H Q ∨ r' x lo hi H Q) := by
  intro pins s σ H x v vl vu lo hi sl Q I rx hs pl pu q
  rcases q with q | q
  · exact h pins s σ H x v vl vu lo hi sl Q I rx hs pl pu q
  · exact h' pins s σ H x v vl vu lo hi sl Q I rx hs pl pu q
def tSl (r : V → Option Int → Option Int → Hp → VK → Prop) (te : TE) (tl th : TO) : TE := fun σ H Q => te σ H fun x H1 => tl σ H1 fun l H2 => th σ H2 fun u H3 => r x l u H3 Q
theorem pe_slice {r : V → Option Int → Option Int → Hp → VK → Prop} (hr : SlR X r) (he : PE X e te) (hl : PO X lo tl) (hu : PO X hi th) : PE X (.Subscript e (.Slice lo hi none p2) pos) (tSl r te tl th) := by
  intro pins s σ H Q I h
  refine Subscript_ (thn (he pins s σ H _ I h) fun v s1 ⟨x, H1, I1, r1, q1⟩ => ?_)
  refine wpAny_Slice (thn (hl pins s1 σ H1 _ I1 q1) fun vl s2 ⟨l, H2, I2, pl, q2⟩ => thn (hu pins s2 σ H2 _ I2 q2) fun vu s3 ⟨u, H3, I3, pu, q3⟩ => ?_)
  rw [evalPart_none]
  refine wpAny_pure ?_
  have I4 : Inv X pins σ H3 { s3 with heap := s3.heap.push { cls := .type "slice", data := .fields #[vl, vu, .none] } } := I3.kept (t' := s3.toks) fun b ob q => Heap.get?_push_of_some _ q
  obtain ⟨T, id, hT, ht, hg⟩ := hr pins { s3 with heap := s3.heap.push { cls := .type "slice", data := .fields #[vl, vu, .none] } } σ H3 x v vl vu l u s3.heap.objs.size Q I4 r1 (Heap.IsSliceOf.new ..) pl pu q3
  show wpAny (model X.prog X.w) X.A (subscriptTail e (.Slice lo hi none p2) v (.ref s3.heap.objs.size)) (EP X pins σ Q) X.xe { s3 with heap := s3.heap.push { cls := .type "slice", data := .fields #[vl, vu, .none] } }
  exact tail_any (ops := [.ref s3.heap.objs.size, v]) ht hT hg (by with_unfolding_all rfl)
def cutV (xs : List V) (lo hi : Option Int) : List V := (xs.drop (HT.sIx xs.length 0 lo)).take (HT.sIx xs.length xs.length hi - HT.sIx xs.length 0 lo)
theorem cutV_length (xs : List V) (lo hi : Option Int) : (cutV xs lo hi).length ≤ xs.length := by
  unfold cutV
  rw [List.length_take, List.length_drop]
  omega
def rSlT (K : PySem.W.Frag) : V → Option Int → Option Int → Hp → VK → Prop := fun x lo hi H Q => ∃ a xs, x = .ref a ∧ SqT K H a xs ∧
  ¬ (HT.sIx xs.length 0 lo = 0 ∧ HT.sIx xs.length xs.length hi = xs.length) ∧ ∀ p, H p = none → Q (.ref p) (upd H p (.tup (cutV xs lo hi)))
theorem sl_tup : SlR X (rSlT X.K) := by
  intro pins s σ H x v vl vu lo hi sl Q I rx hs pl pu h
  obtain ⟨a, xs, rfl, hx, hw, q⟩ := h
  cases rx
  obtain ⟨its, r, ht, hz⟩ := I.tuple hx
  have hlen : its.toArray.size = xs.length := by rw [List.size_toArray]; exact r.length.symm
  refine ⟨"tuple", _, PyProof.Rows.slot_tuple_getitem.lookup, ht.typeIs, ?_⟩
  refine HT.getItem_tuple_cut ht hs pl pu (by rw [hlen]; exact hw) ?_ (by rw [hlen]; exact hz)
  rw [hlen]
  refine ⟨.ref s.heap.objs.size, _, I.laid (t' := s.toks) (o := .tup (cutV xs lo hi)) (fun b ob q => Heap.get?_push_of_some _ q) (Nat.le_refl _) ?_, rfl, q _ (I.hok.fresh (Nat.le_refl _))⟩
  exact ⟨Nat.le_trans (cutV_length xs lo hi) hz, _, (r.drop (HT.sIx xs.length 0 lo)).take (HT.sIx xs.length xs.length hi - HT.sIx xs.length 0 lo), IsTup.new _ _⟩
def rCatT (K : PySem.W.Frag) : R2 := fun x y H Q => ∃ a b xs ys, x = .ref a ∧ y = .ref b ∧ SqT K H a xs ∧ SqT K H b ys ∧ xs ≠ [] ∧ xs.length + ys.length ≤ sizeLine ∧
  (ys = [] → Q (.ref a) H) ∧ (ys ≠ [] → ∀ p, H p = none → Q (.ref p) (upd H p (.tup (xs ++ ys))))
theorem Vals.nil_iff {xs : List V} {us : List Value} (r : Vals xs us) : us = [] ↔ xs = [] := by
  cases r with
  | nil => simp
  | cons _ _ => simp
theorem op_catT : OpR X (binaryOp .Add) (rCatT X.K) := by
  intro pins s σ H x y v u Q I rx ry h
  obtain ⟨a, b, xs, ys, rfl, rfl, ha, hb, hx, hz, q1, q2⟩ := h
  cases rx
  cases ry
  obtain ⟨its, r1, p1, _⟩ := I.tuple ha
  obtain ⟨its2, r2, p2, _⟩ := I.tuple hb
  refine HT.cat_tup p1 p2 (fun z => hx (r1.nil_iff.mp z)) (fun z => ⟨.ref a, H, I, rfl, q1 (r2.nil_iff.mp z)⟩) (fun z => ?_) (by rw [← r1.length, ← r2.length]; exact hz)
  refine ⟨.ref s.heap.objs.size, _, I.laid (t' := s.toks) (o := .tup (xs ++ ys)) (fun b ob q => Heap.get?_push_of_some _ q) (Nat.le_refl _) ?_, rfl, q2 (fun w => z (r2.nil_iff.mpr w)) _ (I.hok.fresh (Nat.le_refl _))⟩
  exact ⟨by rw [List.length_append]; exact hz, _, r1.append r2, IsTup.new _ _⟩
end
end L2
namespace L2
open PySem PySem.Spec PyProof.Rows
def ixN (n : Nat) (i : Int) : Option Nat := if 0 ≤ i then (if i < n then some i.toNat else none) else if -(n : Int) ≤ i then some (i + n).toNat else none
def atI {α : Type} (xs : List α) (i : Int) : Option α := (ixN xs.length i).bind fun j => xs[j]?
theorem ixN_seq {n : Nat} {i : Int} {j : Nat} (h : ixN n i = some j) : seqIndex? i n = some j ∧ j < n ∧ -(n : Int) ≤ i ∧ i < n := by
  unfold ixN at h
  by_cases h0 : 0 ≤ i
  · rw [if_pos h0] at h
    by_cases h1 : i < n
    · rw [if_pos h1] at h
      have e : i.toNat = j := Option.some.inj h
      exact ⟨by rw [seqIndex_of h0 h1, e], by omega, by omega, h1⟩
    · rw [if_neg h1] at h; cases h
  · rw [if_neg h0] at h
    by_cases h1 : -(n : Int) ≤ i
    · rw [if_pos h1] at h
      have e : (i + n).toNat = j := Option.some.inj h
      exact ⟨by rw [seqIndex_neg (by omega) h1, e], by omega, h1, by omega⟩
    · rw [if_neg h1] at h; cases h
theorem atI_get {α : Type} {xs : List α} {i : Int} {v : α} (h : atI xs i = some v) : ∃ j, seqIndex? i xs.length = some j ∧ xs[j]? = some v ∧ j < xs.length ∧ -(xs.length : Int) ≤ i ∧ i < xs.length := by
  unfold atI at h
  cases e : ixN xs.length i with
  | none => rw [e] at h; cases h
  | some j =>
    rw [e] at h
    obtain ⟨h1, h2, h3, h4⟩ := ixN_seq e
    exact ⟨j, h1, h, h2, h3, h4⟩
def PlainIx (b : Expr) : Prop := ∀ o i, subscripted b false o i = operate [o, i] (getItem o i)
def IxR (X : Cx) (r : R2) : Prop :=
  ∀ (value slice : Expr) (pins : List (Addr × Obj)) (s : Shared) (σ : St) (H : Hp) (x y : V) (v u : Value) (Q : VK), Inv X pins σ H s → RelV x v → RelV y u → r x y H Q →
    subscripted slice false v u = operate [v, u] (getItem v u) → wpAny (model X.prog X.w) X.A (subscriptTail value slice v u) (EP X pins σ Q) X.xe s
def MtR (X : Cx) (id : String) (r : V → List V → Hp → VK → Prop) : Prop :=
  ∀ (pins : List (Addr × Obj)) (s : Shared) (σ : St) (H : Hp) (x : V) (xs : List V) (v : Value) (us : List Value) (Q : VK), Inv X pins σ H s → RelV x v → Vals xs us → r x xs H Q →
    wpAny (model X.prog X.w) X.A (call (.builtin id) (v :: us)) (EP X pins σ Q) X.xe s
section
variable {X : Cx} {a b : Expr} {ta tb : TE} {pos : Pos}
theorem IxR.or {r r' : R2} (h : IxR X r) (h' : IxR X r') : IxR X (fun x y H Q => r x y H Q ∨ r' x y H Q) := by
  intro value slice pins s σ H x y v u Q I rx ry q hs
  rcases q with q | q
  · exact h value slice pins s σ H x y v u Q I rx ry q hs
  · exact h' value slice pins s σ H x y v u Q I rx ry q hs
theorem MtR.or {id : String} {r r' : V → List V → Hp → VK → Prop} (h : MtR X id r) (h' : MtR X id r') : MtR X id (fun x xs H Q => r x xs H Q ∨ r' x xs H Q) := by
  intro pins s σ H x xs v us Q I rx rs q
  rcases q with q | q
  · exact h pins s σ H x xs v us Q I rx rs q
  · exact h' pins s σ H x xs v us Q I rx rs q
theorem pe_ix {r : R2} (hr : IxR X r) (ha : PE X a ta) (hb : PE X b tb) (hs : PlainIx b) : PE X (.Subscript a b pos) (tOp r ta tb) := by
  intro pins s σ H Q I h
  exact Subscript_ (binT ha hb I h fun v u s2 x y H2 I2 rx ry q => hr a b pins s2 σ H2 x y v u Q I2 rx ry q (hs _ _))
def rIxL (K : PySem.W.Frag) : R2 := fun x y H Q => ∃ p xs i v, x = .ref p ∧ y = .int i ∧ SqL K H p xs ∧ atI xs i = some v ∧ Q v H
def rIxT (K : PySem.W.Frag) : R2 := fun x y H Q => ∃ p xs i v, x = .ref p ∧ y = .int i ∧ SqT K H p xs ∧ atI xs i = some v ∧ Q v H
def rIxS : R2 := fun x y H Q => ∃ z i c, x = .str z ∧ y = .int i ∧ z.length ≤ sizeLine ∧ atI z.cps.toList i = some c ∧ Q (.str ⟨#[c]⟩) H
theorem ix_list : IxR X (rIxL X.K) := by
  intro value slice pins s σ H x y v u Q I rx ry h hs
  obtain ⟨p, xs, i, z, rfl, rfl, hq, he, q⟩ := h
  cases rx
  obtain ⟨t, rfl⟩ := ry
  obtain ⟨its, r, pl, hz⟩ := I.list hq
  obtain ⟨j, h1, h2, h3, h4, h5⟩ := atI_get he
  obtain ⟨w, ew, rw'⟩ := r.get h2
  have hl := r.length
  have hn := line63
  have fin : EP X pins σ Q w s := ⟨z, H, I, rw', q⟩
  by_cases h0 : 0 ≤ i
  · have hj : i.toNat = j := by
      rw [seqIndex_of h0 h5] at h1
      exact Option.some.inj h1
    exact item_listR pl.isList h0 (by omega) (by rw [hj]; simpa using ew) fin hs
  · have hj : (i + (its.toArray.size : Int)).toNat = j := by
      rw [seqIndex_neg (by omega) h4] at h1
      rw [List.size_toArray, ← hl]
      exact Option.some.inj h1
    exact subscriptTail_builtinR (x := w) pl.isList.typeIs slot_list_getitem.lookup
      (wpAny_getItem_list_neg (Q := fun r s' => r = w ∧ EP X pins σ Q r s') pl.isList (by omega) (by rw [List.size_toArray] <;> omega) (by omega) (by rw [hj]; simpa using ew) ⟨rfl, fin⟩) hs
theorem ix_tup : IxR X (rIxT X.K) := by
  intro value slice pins s σ H x y v u Q I rx ry h hs
  obtain ⟨p, xs, i, z, rfl, rfl, hq, he, q⟩ := h
  cases rx
  obtain ⟨t, rfl⟩ := ry
  obtain ⟨its, r, pl, hz⟩ := I.tuple hq
  obtain ⟨j, h1, h2, h3, h4, h5⟩ := atI_get he
  obtain ⟨w, ew, rw'⟩ := r.get h2
  have hl := r.length
  have hn := line63
  have fin : EP X pins σ Q w s := ⟨z, H, I, rw', q⟩
  exact subscriptTail_builtinR (x := w) pl.typeIs slot_tuple_getitem.lookup
    (getItem_tuple (j := j) (Q := fun r s' => r = w ∧ EP X pins σ Q r s') pl (by omega) (by omega) (by rw [List.size_toArray, ← hl]; exact h1) (by simpa using ew) ⟨rfl, fin⟩) hs
theorem ix_str : IxR X rIxS := by
  intro value slice pins s σ H x y v u Q I rx ry h hs
  obtain ⟨z, i, c, rfl, rfl, hz, he, q⟩ := h
  obtain ⟨t, rfl⟩ := rx
  obtain ⟨t', rfl⟩ := ry
  obtain ⟨j, h1, h2, h3, h4, h5⟩ := atI_get he
  have hl : z.cps.toList.length = z.length := by simp [Str.length]
  rw [hl] at h1 h4 h5
  have hn := line63
  exact tail_any (typeIs_str s z t) slot_str_getitem.lookup (getItem_str (c := c) (by
    have e1 : decide (i < -(2 ^ 63 : Int)) = false := decide_eq_false (by omega)
    have e2 : decide (i ≥ 2 ^ 63) = false := decide_eq_false (by omega)
    rw [e1, e2, Bool.or_false]) (by rw [h1]; simpa using h2) ⟨.str ⟨#[c]⟩, H, I.tok _, ⟨_, rfl⟩, q⟩) hs
def rIx (K : PySem.W.Frag) : R2 := fun x y H Q => rIxL K x y H Q ∨ rIxT K x y H Q ∨ rIxS x y H Q
theorem ix_seq : IxR X (rIx X.K) := ix_list.or (ix_tup.or ix_str)
theorem mapSeq_set (its : List Value) (n j : Nat) (u : Value) : Obj.mapSeq (·.setIfInBounds j u) { cls := .type "list", data := .seq its.toArray n } = { cls := .type "list", data := .seq (its.set j u).toArray n } := by
  simp [Obj.mapSeq]
theorem Inv.lst {pins : List (Addr × Obj)} {σ : St} {H : Hp} {s : Shared} {p : Addr} {xs : List V} (I : Inv X pins σ H s) (h : H p = some (.lst xs)) :
    ∃ (its : List Value) (n : Nat), Vals xs its ∧ s.heap.get? p = some { cls := .type "list", data := .seq its.toArray n } ∧ xs.length ≤ sizeLine := by
  obtain ⟨z, its, n, r, e⟩ := I.hok p _ h
  exact ⟨its, n, r, e, z⟩
theorem Inv.lstUpd {pins : List (Addr × Obj)} {σ : St} {H : Hp} {s : Shared} {p : Addr} {xs ys : List V} {its its' : List Value} {n n' : Nat} {f : Obj → Obj} (I : Inv X pins σ H s) (h : H p = some (.lst xs))
    (ho : s.heap.get? p = some { cls := .type "list", data := .seq its.toArray n }) (hf : f { cls := .type "list", data := .seq its.toArray n } = { cls := .type "list", data := .seq its'.toArray n' }) (r : Vals ys its') (hz : ys.length ≤ sizeLine) (t : Nat) :
    Inv X pins σ (upd H p (.lst ys)) { s with heap := s.heap.update p f, toks := t } := by
  have e : (s.heap.update p f).get? p = some { cls := .type "list", data := .seq its'.toArray n' } := by
    rw [Heap.get?_update_self f ho (by rw [hf] <;> rfl), hf]
  refine I.write (x := p) (e := p) (by rw [h]; trivial) (.inl rfl) (fun b u hb q => (Heap.get?_update_other _ _ (Ne.symm hb)).trans q) ⟨_, e⟩ ?_
  exact ⟨hz, its', n', r, e⟩
def rSetL : V → V → V → Hp → (Hp → Prop) → Prop := fun o i v H Q => ∃ p xs k j, o = .ref p ∧ i = .int k ∧ H p = some (.lst xs) ∧ ixN xs.length k = some j ∧ Q (upd H p (.lst (xs.set j v)))
theorem set_list : PSet X rSetL := by
  intro pins s σ H o i v ov iv u Q I ro ri rv h
  obtain ⟨p, xs, k, j, rfl, rfl, hp, hj, q⟩ := h
  cases ro
  obtain ⟨t, rfl⟩ := ri
  obtain ⟨its, n, r, ho, hz⟩ := I.lst hp
  obtain ⟨h1, h2, h3, h4⟩ := ixN_seq hj
  have hl := r.length
  have hn := line63
  have I' : Inv X pins σ (upd H p (.lst (xs.set j v))) { s with heap := s.heap.update p (Obj.mapSeq (·.setIfInBounds j u)) } :=
    I.lstUpd hp ho (mapSeq_set its n j u) (r.set rv j) (by rw [List.length_set]; exact hz) s.toks
  by_cases h0 : 0 ≤ k
  · have hk : k.toNat = j := by
      rw [seqIndex_of h0 h4] at h1
      exact Option.some.inj h1
    exact PySem.W.ki_setAt ho h0 (by omega) (by rw [List.size_toArray, ← hl]; exact h4) (by rw [hk]; exact ⟨_, I', q⟩)
  · have hk : (k + (its.toArray.size : Int)).toNat = j := by
      rw [seqIndex_neg (by omega) h3] at h1
      rw [List.size_toArray, ← hl]
      exact Option.some.inj h1
    exact PySem.W.ki_setBack ho (by omega) (by rw [List.size_toArray, ← hl]; exact h3) (by omega) (by rw [hk]; exact ⟨_, I', q⟩)
theorem slice_bounds (lo hi : Option Int) (n : Nat) : (sliceBounds lo hi none n).1 = ((HT.sIx n 0 lo : Nat) : Int) ∧ (sliceBounds lo hi none n).2.1 = ((HT.sIx n n hi : Nat) : Int) ∧ (sliceBounds lo hi none n).2.2 = 1 := by
  refine ⟨?_, ?_, rfl⟩
  · cases lo with
    | none => simp [sliceBounds, HT.sIx]
    | some i =>
      simp only [sliceBounds, HT.sIx, Option.getD_none, show (1 : Int) > 0 by decide, if_true]
      by_cases h : i < 0
      · simp only [h, if_true] <;> omega
      · simp only [h, if_false] <;> omega
  · cases hi with
    | none => simp [sliceBounds, HT.sIx]
    | some i =>
      simp only [sliceBounds, HT.sIx, Option.getD_none, show (1 : Int) > 0 by decide, if_true]
      by_cases h : i < 0
      · simp only [h, if_true] <;> omega
      · simp only [h, if_false] <;> omega
theorem slicePick_cut (its : List Value) (lo hi : Option Int) : slicePick its.toArray lo hi none = ((its.drop (HT.sIx its.length 0 lo)).take (HT.sIx its.length its.length hi - HT.sIx its.length 0 lo)).toArray := by
  obtain ⟨h1, h2, h3⟩ := slice_bounds lo hi its.toArray.size
  unfold slicePick
  rw [h1, h2, h3]
  simp only [sliceRange_one, pick_run, List.size_toArray] <;> rfl
def rSlL (K : PySem.W.Frag) : V → Option Int → Option Int → Hp → VK → Prop := fun x lo hi H Q => ∃ a xs, x = .ref a ∧ SqL K H a xs ∧ ∀ p, H p = none → Q (.ref p) (upd H p (.lst (cutV xs lo hi)))
theorem sl_list : SlR X (rSlL X.K) := by
  intro pins s σ H x v vl vu lo hi sl Q I rx hs pl pu h
  obtain ⟨a, xs, rfl, hx, q⟩ := h
  cases rx
  obtain ⟨its, r, ht, hz⟩ := I.list hx
  have hlen := r.length
  refine ⟨"list", _, slot_list_getitem.lookup, ht.isList.typeIs, ?_⟩
  refine wpAny_getItem_list_slice ht.isList hs pl pu .none (by simp) ?_ (by rw [List.size_toArray] <;> omega)
  rw [slicePick_cut, ← hlen]
  refine ⟨.ref s.heap.objs.size, _, I.laid (t' := s.toks) (o := .lst (cutV xs lo hi)) (fun b ob q => Heap.get?_push_of_some _ q) (Nat.le_refl _) ?_, rfl, q _ (I.hok.fresh (Nat.le_refl _))⟩
  exact ⟨Nat.le_trans (cutV_length xs lo hi) hz, _, 0, (r.drop (HT.sIx xs.length 0 lo)).take (HT.sIx xs.length xs.length hi - HT.sIx xs.length 0 lo), Heap.get?_push_size _ rfl⟩
theorem CallR.or {f : Value} {r r' : List V → Hp → VK → Prop} (h : CallR X f r) (h' : CallR X f r') : CallR X f (fun xs H Q => r xs H Q ∨ r' xs H Q) := by
  intro pins s σ H xs us Q I rs q
  rcases q with q | q
  · exact h pins s σ H xs us Q I rs q
  · exact h' pins s σ H xs us Q I rs q
theorem call_list_of : CallR X (.type "list") (fun xs H Q => ∃ p ys, xs = [.ref p] ∧ (SqL X.K H p ys ∨ SqT X.K H p ys) ∧ ∀ l, H l = none → Q (.ref l) (upd H l (.lst ys))) := by
  intro pins s σ H xs us Q I r h
  obtain ⟨p, ys, rfl, hq, q⟩ := h
  obtain ⟨u, rfl, rx⟩ := vals1 r
  cases rx
  have fin : ∀ (its : List Value), Vals ys its → ys.length ≤ sizeLine → ∀ (h' : Heap) (c' : Nat), (∀ b o', s.heap.get? b = some o' → h'.get? b = some o') →
      h'.get? s.heap.objs.size = some { cls := .type "list", dict := none, data := .seq its.toArray c', slots := #[] } → EP X pins σ Q (.ref s.heap.objs.size) { s with heap := h' } := fun its r' hz h' c' kp e =>
    ⟨.ref s.heap.objs.size, _, I.laid (t' := s.toks) kp (Nat.le_refl _) (show ObjOk X.prog X.w _ h' _ (.lst ys) from ⟨hz, its, c', r', e⟩), rfl, q _ (I.hok.fresh (Nat.le_refl _))⟩
  rcases hq with hq | hq
  · obtain ⟨its, r', pl, hz⟩ := I.list hq
    have hlen := r'.length
    obtain ⟨o, ho, hc, n, hd⟩ := pl.isList
    exact call_list_seq p (.inl rfl) ho hc hd (fun h' c' kp e => fin its r' hz h' c' kp e) (by simp only [List.size_toArray] <;> omega)
  · obtain ⟨its, r', pl, hz⟩ := I.tuple hq
    have hlen := r'.length
    obtain ⟨o, ho, hc, n, hd⟩ := pl
    exact call_list_seq p (.inr rfl) ho hc hd (fun h' c' kp e => fin its r' hz h' c' kp e) (by simp only [List.size_toArray] <;> omega)
theorem call_tuple_of : CallR X (.type "tuple") (fun xs H Q => ∃ p ys, xs = [.ref p] ∧ ((SqL X.K H p ys ∧ ∀ l, H l = none → Q (.ref l) (upd H l (.tup ys))) ∨ (SqT X.K H p ys ∧ Q (.ref p) H))) := by
  intro pins s σ H xs us Q I r h
  obtain ⟨p, ys, rfl, h⟩ := h
  obtain ⟨u, rfl, rx⟩ := vals1 r
  cases rx
  rcases h with ⟨hq, q⟩ | ⟨hq, q⟩
  · obtain ⟨its, r', pl, hz⟩ := I.list hq
    have hlen := r'.length
    refine call_tuple_list pl.isList (fun h' kp => ?_) (by simp only [List.size_toArray] <;> omega)
    have I1 : Inv X pins σ H { s with heap := h' } := I.kept (t' := s.toks) kp
    have I2 : Inv X pins σ (upd H h'.objs.size (.tup ys)) { s with heap := h'.push { cls := .type "tuple", data := .seq its.toArray } } :=
      I1.laid (t' := s.toks) (fun b o e => Heap.get?_push_of_some _ e) (Nat.le_refl _) (show ObjOk X.prog X.w _ _ _ (.tup ys) from ⟨hz, its, r', IsTup.new _ _⟩)
    exact ⟨.ref h'.objs.size, _, I2, rfl, q _ (I1.hok.fresh (Nat.le_refl _))⟩
  · obtain ⟨its, r', pl, hz⟩ := I.tuple hq
    exact call_tuple_same pl ⟨.ref p, H, I, rfl, q⟩
def tyV (K : PySem.W.Frag) (T : String) (x : V) (H : Hp) : Prop := match x with
  | .str _ => T = "str"
  | .int _ => T = "int"
  | .ref p => (T = "list" ∧ ∃ xs, SqL K H p xs) ∨ (T = "tuple" ∧ ∃ o, K.lookup p = some o ∧ o.cls = .type "tuple" ∧ o.dict = none) ∨
      (T = "dict" ∧ ((∃ kvs, H p = some (.dK kvs)) ∨ ∃ kvs, H p = some (.dT kvs))) ∨ (T = "set" ∧ ∃ S n, H p = some (.set S n))
  | _ => False
theorem tyV_is {pins : List (Addr × Obj)} {σ : St} {H : Hp} {s : Shared} {T : String} {x : V} {v : Value} (I : Inv X pins σ H s) (r : RelV x v) (ty : tyV X.K T x H) :
    s.TypeIs v T ∧ ∀ a, v = .ref a → ∃ ob, s.heap.get? a = some ob ∧ ob.dict = none := by
  cases x with
  | str z =>
    obtain ⟨t, rfl⟩ := r
    cases (show T = "str" from ty)
    exact ⟨typeIs_str s z t, fun _ e => nomatch e⟩
  | int i =>
    obtain ⟨t, rfl⟩ := r
    cases (show T = "int" from ty)
    exact ⟨typeIs_int s i t, fun _ e => nomatch e⟩
  | ref p =>
    cases r
    rcases ty with ⟨rfl, xs, hq⟩ | ⟨rfl, o, hk, hc, hd⟩ | ⟨rfl, hk⟩ | ⟨rfl, S, n, hk⟩
    · obtain ⟨its, _, pl, _⟩ := I.list hq
      refine ⟨pl.isList.typeIs, fun a e => ?_⟩
      cases e
      obtain ⟨o, n, e, c, hd, _⟩ := pl
      exact ⟨o, e, hd⟩
    · refine ⟨⟨o, I.kIn p o hk, hc⟩, fun a e => ?_⟩
      cases e
      exact ⟨o, I.kIn _ o hk, hd⟩
    · have z : ∃ o, s.heap.get? p = some o ∧ o.ExactDict := by
        rcases hk with ⟨kvs, hk⟩ | ⟨kvs, hk⟩
        · obtain ⟨_, _, _, _, o, _, _, e, ex, _⟩ := I.hok p _ hk
          exact ⟨o, e, ex⟩
        · obtain ⟨_, _, _, _, o, _, _, e, ex, _⟩ := I.hok p _ hk
          exact ⟨o, e, ex⟩
      obtain ⟨o, e, ex⟩ := z
      refine ⟨⟨o, e, ex.1⟩, fun a e2 => ?_⟩
      cases e2
      exact ⟨o, e, ex.2.1⟩
    · obtain ⟨o, _, _, _, e, ex, _⟩ := I.hok p _ hk
      refine ⟨⟨o, e, ex.1⟩, fun a e2 => ?_⟩
      cases e2
      exact ⟨o, e, ex.2.1⟩
  | _ => exact False.elim ty
def tBM (K : PySem.W.Frag) (T : String) (r : V → List V → Hp → VK → Prop) (to : TE) (t : TA) : TE := fun σ H Q => to σ H fun x H1 => tyV K T x H1 ∧ t σ H1 fun xs H2 => r x xs H2 Q
variable {o e : Expr} {es : List Expr} {to : TE} {t : TA} {name : Str} {apos cpos : Pos} {T id : String} {r : V → List V → Hp → VK → Prop}
theorem pe_bm (pa : PlainAttrs T) (slot : Slot T name id) (hty : typeOf (.builtin id) = pure (.type "method_descriptor")) (hm : MtR X id r) (ho : PE X o to) (ha : PA X (e :: es) t)
    (hbase : attributeBase o name X.env (eval o X.env) = eval o X.env := by rfl)
    (hfew : ((backTo cpos (starEach (e :: es) X.env)).all (fun x => !x.1) && (backToKw cpos (keywordEach [] X.env)).all (fun x => x.1.isSome)
      && decide ((e :: es).length + ([] : List Keyword).length + (if ([] : List Keyword).isEmpty then 0 else 1) < 30)) = true := by rfl)
    (hline : (apos.endLine == cpos.line) = true := by rfl) (hs : starEach (e :: es) X.env = (false, eval e X.env) :: starEach es X.env := by rfl) (hplain : (backTo cpos (starEach es X.env)).any (·.1) = false := by rfl) :
    PE X (.Call (.Attribute o name apos) (e :: es) [] cpos) (tBM X.K T r to t) := by
  intro pins s σ H Q I h
  refine wpAny_Call_method_late hbase hfew hline rfl (thn (ho pins s σ H _ I h) fun v s1 ⟨x, H1, I1, r1, ty, q1⟩ => ?_)
  obtain ⟨h1, h2⟩ := tyV_is I1 r1 ty
  refine ⟨T, id, pa, slot, hty, h1, h2, ?_⟩
  have hA := ha cpos pins s1 σ H1 _ I1 q1
  rw [hs] at hA ⊢
  refine Calls.callWith_builtin (by show (false || (backTo cpos (starEach es X.env)).any (·.1)) = false; rw [hplain] <;> rfl) (Calls.evalArgs_plain ?_)
  exact thn hA fun us s2 ⟨vs, H2, I2, r2, q2⟩ => hm pins s2 σ H2 x vs v us Q I2 r1 r2 q2
end
end L2
namespace L2
open PySem PySem.Spec PyProof.Rows
def MtM (X : Cx) (id : String) (r : V → List V → Hp → VK → Prop) : Prop :=
  ∀ (pins : List (Addr × Obj)) (s : Shared) (σ : St) (H : Hp) (x : V) (xs : List V) (v : Value) (us : List Value) (Q : VK), Inv X pins σ H s → RelV x v → Vals xs us → r x xs H Q →
    wpAny (model X.prog X.w) X.A (call (.builtin id) (v :: us)) (EP X pins σ Q) X.xe s
theorem Vals.one : ∀ {x : V} {us : List Value}, Vals [x] us → ∃ u, us = [u] ∧ RelV x u
  | _, _, .cons r .nil => ⟨_, rfl, r⟩
theorem Vals.two : ∀ {x y : V} {us : List Value}, Vals [x, y] us → ∃ u v, us = [u, v] ∧ RelV x u ∧ RelV y v
  | _, _, _, .cons r (.cons q .nil) => ⟨_, _, rfl, r, q⟩
theorem Vals.zero : ∀ {us : List Value}, Vals [] us → us = []
  | _, .nil => rfl
theorem Vals.dropLast {xs : List V} {us : List Value} (h : Vals xs us) : Vals xs.dropLast us.dropLast := by
  induction h with
  | nil => exact .nil
  | cons r t ih =>
    cases t with
    | nil => exact .nil
    | cons q t' => exact .cons r ih
theorem Vals.eraseIdx : ∀ {xs : List V} {us : List Value} (i : Nat), Vals xs us → Vals (xs.eraseIdx i) (us.eraseIdx i)
  | _, _, _, .nil => .nil
  | _, _, 0, .cons _ t => t
  | _, _, i + 1, .cons r t => .cons r (Vals.eraseIdx i t)
theorem Vals.reverse {xs : List V} {us : List Value} (h : Vals xs us) : Vals xs.reverse us.reverse := by
  induction h with
  | nil => exact .nil
  | cons r t ih => rw [List.reverse_cons, List.reverse_cons]; exact Vals.append ih (.cons r .nil)
theorem Vals.rep {xs : List V} {us : List Value} (h : Vals xs us) : ∀ k : Nat, Vals (List.replicate k xs).flatten (List.replicate k us).flatten
  | 0 => .nil
  | k + 1 => by
    rw [List.replicate_succ, List.replicate_succ, List.flatten_cons, List.flatten_cons]
    exact Vals.append h (Vals.rep h k)
theorem foldl_rep (its : List Value) : ∀ (k : Nat) (acc : List Value),
    List.foldl (fun x1 x2 => x1 ++ x2) acc.toArray (List.replicate k its.toArray) = (acc ++ (List.replicate k its).flatten).toArray
  | 0, acc => by simp
  | k + 1, acc => by
    have e : acc.toArray ++ its.toArray = (acc ++ its).toArray := by simp
    have e2 : (acc ++ its) ++ (List.replicate k its).flatten = acc ++ (List.replicate (k + 1) its).flatten := by
      rw [List.replicate_succ, List.flatten_cons, List.append_assoc]
    rw [← e2, ← foldl_rep its k (acc ++ its), ← e, List.replicate_succ, List.foldl_cons]
section
variable {X : Cx} {pins : List (Addr × Obj)} {σ : St} {H : Hp} {s : Shared} {l b : Addr} {xs ys zs : List V}
theorem Inv.lset {its its' : List Value} {n : Nat} {f : Array Value → Array Value} {t' : Nat} (I : Inv X pins σ H s) (hH : H l = some (.lst xs))
    (e : s.heap.get? l = some { cls := .type "list", data := .seq its.toArray n }) (hf : f its.toArray = its'.toArray) (hv : Vals ys its') (hz : ys.length ≤ sizeLine) :
    Inv X pins σ (upd H l (.lst ys)) { s with heap := s.heap.update l (Obj.mapSeq f), toks := t' } := by
  have q := PySem.IsL.update e f
  rw [hf] at q
  refine I.write (x := l) (e := l) (by rw [hH]; exact trivial) (.inl rfl) (fun b' u hb hu => (Heap.get?_update_other s.heap (Obj.mapSeq f) (Ne.symm hb)).trans hu) ⟨_, q⟩ ?_
  exact ⟨hz, its', _, hv, q⟩
theorem Inv.lnew {its : List Value} {t' : Nat} (I : Inv X pins σ H s) (hv : Vals ys its) (hz : ys.length ≤ sizeLine) :
    Inv X pins σ (upd H s.heap.objs.size (.lst ys)) { s with heap := s.heap.push { cls := .type "list", data := .seq its.toArray }, toks := t' } :=
  I.laid (fun _ _ q => Heap.get?_push_of_some _ q) (Nat.le_refl _) ⟨hz, its, 0, hv, Heap.get?_push_size _ rfl⟩
theorem Inv.fresh (I : Inv X pins σ H s) : H s.heap.objs.size = none := I.hok.fresh (Nat.le_refl _)
theorem Inv.lstM (I : Inv X pins σ H s) (hH : H l = some (.lst xs)) : xs.length ≤ sizeLine ∧ ∃ (its : List Value) (n : Nat), Vals xs its ∧ xs.length = its.length ∧ s.heap.get? l = some { cls := .type "list", data := .seq its.toArray n } := by
  obtain ⟨z, its, n, r, e⟩ := I.hok l _ hH
  exact ⟨z, its, n, r, r.length, e⟩
theorem notLongL {n : Nat} (h : n ≤ sizeLine) : Builtin.List.listTooLong n = false := by
  unfold Builtin.List.listTooLong
  exact decide_eq_false (by omega)
end
section
variable {X : Cx}
def rAppend : V → List V → Hp → VK → Prop := fun x vs H Q => ∃ l xs y, x = .ref l ∧ vs = [y] ∧ H l = some (.lst xs) ∧ xs.length < sizeLine ∧ Q .non (upd H l (.lst (xs ++ [y])))
theorem mt_append : MtM X "list.append" rAppend := by
  intro pins s σ H x vs v us Q I rx rv h
  obtain ⟨l, xs, y, rfl, rfl, hH, hz, q⟩ := h
  cases rx
  obtain ⟨u, rfl, ru⟩ := rv.one
  obtain ⟨z, its, n, r, hl, e⟩ := I.lstM hH
  refine call_meets F.slot_list_append ⟨_, e, rfl⟩ F.entry_list_append (F.args_list_append_2 _ _) (PySem.list_append l its.toArray n u (by rw [List.size_toArray]; omega)) ⟨e, ?_⟩
  refine ⟨.non, _, I.lset (its' := its ++ [u]) hH e (by simp) (r.append (.cons ru .nil)) ?_, rfl, q⟩
  rw [List.length_append, List.length_singleton]
  omega
def rExtend : V → List V → Hp → VK → Prop := fun x vs H Q => ∃ l b xs zs, x = .ref l ∧ vs = [.ref b] ∧ H l = some (.lst xs) ∧ H b = some (.lst zs) ∧ xs.length + zs.length ≤ sizeLine ∧ Q .non (upd H l (.lst (xs ++ zs)))
theorem mt_extend : MtM X "list.extend" rExtend := by
  intro pins s σ H x vs v us Q I rx rv h
  obtain ⟨l, b, xs, zs, rfl, rfl, hH, hB, hz, q⟩ := h
  cases rx
  obtain ⟨u, rfl, ru⟩ := rv.one
  cases ru
  obtain ⟨z, its, n, r, hl, e⟩ := I.lstM hH
  obtain ⟨z2, its2, n2, r2, hl2, e2⟩ := I.lstM hB
  have hsz : its.toArray.size + its2.toArray.size ≤ sizeLine := by rw [List.size_toArray, List.size_toArray]; omega
  have hlong : ¬ (!its.toArray.isEmpty && Builtin.List.listTooLong (its.toArray.size + its2.toArray.size)) = true := by
    rw [notLongL hsz, Bool.and_false]
    exact Bool.false_ne_true
  refine call_meets F.slot_list_extend ⟨_, e, rfl⟩ F.entry_list_extend (F.args_list_extend_2 _ _)
    (AutoSeq1.list_extend_list_list_0 l its.toArray n b its2.toArray n2 hlong (by rw [List.size_toArray]; omega) (by omega)) ⟨e, e2, ?_⟩
  refine ⟨.non, _, I.lset (its' := its ++ its2) hH e (by simp) (r.append r2) ?_, rfl, q⟩
  rw [List.length_append]
  omega
def rCat : R2 := fun x y H Q => ∃ l b xs zs, x = .ref l ∧ y = .ref b ∧ H l = some (.lst xs) ∧ H b = some (.lst zs) ∧ xs.length + zs.length ≤ sizeLine ∧ ∀ p, H p = none → Q (.ref p) (upd H p (.lst (xs ++ zs)))
theorem op_cat : OpR X (binaryOp .Add) rCat := by
  intro pins s σ H x y v u Q I rx ry h
  obtain ⟨l, b, xs, zs, rfl, rfl, hH, hB, hz, q⟩ := h
  cases rx
  cases ry
  obtain ⟨z, its, n, r, hl, e⟩ := I.lstM hH
  obtain ⟨z2, its2, n2, r2, hl2, e2⟩ := I.lstM hB
  refine PySem.P.add_list e e2 ?_ (by rw [List.size_toArray, List.size_toArray]; omega)
  have ea : its.toArray ++ its2.toArray = (its ++ its2).toArray := by simp
  rw [ea]
  exact ⟨.ref _, _, I.lnew (t' := s.toks) (r.append r2) (by rw [List.length_append]; omega), rfl, q _ I.fresh⟩
def rRep : R2 := fun x y H Q => ∃ l k xs, x = .ref l ∧ y = .int k ∧ H l = some (.lst xs) ∧ -(2 ^ 63) ≤ k ∧ k < 2 ^ 63 ∧ xs.length * k.toNat ≤ sizeLine ∧
  ∀ p, H p = none → Q (.ref p) (upd H p (.lst (List.replicate k.toNat xs).flatten))
theorem len_rep {α : Type} (xs : List α) (k : Nat) : (List.replicate k xs).flatten.length = k * xs.length := by
  induction k with
  | zero => simp
  | succ k ih => rw [List.replicate_succ, List.flatten_cons, List.length_append, ih, Nat.succ_mul, Nat.add_comm]
theorem op_rep : OpR X (binaryOp .Mult) rRep := by
  intro pins s σ H x y v u Q I rx ry h
  obtain ⟨l, k, xs, rfl, rfl, hH, h1, h2, hz, q⟩ := h
  cases rx
  obtain ⟨t, rfl⟩ := ry
  obtain ⟨z, its, n, r, hl, e⟩ := I.lstM hH
  have hlen : its.toArray.size * k.toNat ≤ sizeLine := by rw [List.size_toArray, ← hl]; exact hz
  have hcap : ¬ its.toArray.size * k.toNat > (2 ^ 63 - 1) / 8 := by
    have : (sizeLine : Nat) ≤ (2 ^ 63 - 1) / 8 := by decide
    omega
  have hfit : ¬ (!Builtin.List.listFitsIndex k) = true := by
    rw [fitsIndex_both h1 h2]
    exact Bool.false_ne_true
  have hlong : ¬ Builtin.List.listTooLong (its.toArray.size * k.toNat) = true := by
    rw [notLongL hlen]
    exact Bool.false_ne_true
  have hnew : List.foldl (fun x1 x2 => x1 ++ x2) #[] (List.replicate (if its.toArray.isEmpty = true then 0 else k.toNat) its.toArray) = (List.replicate k.toNat its).flatten.toArray := by
    have f0 : ∀ m : Nat, List.foldl (fun x1 x2 => x1 ++ x2) #[] (List.replicate m its.toArray) = (List.replicate m its).flatten.toArray := fun m => by
      have := foldl_rep its m []
      rw [List.nil_append] at this
      exact this
    rw [f0]
    cases its with
    | nil => simp
    | cons a r' => rw [if_neg (by simp)]
  refine wpAny_binaryOp_repeat_ref (T := "list") (U := "int") (by decide) ⟨_, e, rfl⟩ (fun s' => typeIs_int s' k t) noFill_list_mul F.fills_int_mul F.slot_int_rmul repeat_list F.slot_int_index.lookup
    (call_meets F.slot_int_rmul (typeIs_int s k t) F.entry_int_rmul (F.args_int_rmul_2 _ _) (int___rmul___int_list k t l its.toArray n)
      ⟨e, rfl, ⟨_, e, rfl⟩, call_meets F.slot_list_mul ⟨_, e, rfl⟩ F.entry_list_mul (F.args_list_mul_2 _ _) (AutoListH.list___mul___list_int_3 l its.toArray n k t hfit hcap hlong) ⟨e, ?_⟩⟩)
  rw [hnew]
  exact ⟨.ref _, _, I.lnew (t' := s.toks) (r.rep k.toNat) (by rw [len_rep, Nat.mul_comm]; exact hz), rfl, q _ I.fresh⟩
end
section
variable {prog : Program} {w : World} {A : Around} {E : Value → Shared → Prop} {s : Shared}
end
section
variable {X : Cx}
end
end L2
namespace L2
open PySem PySem.Spec PyProof.Rows
section
variable {κ : Type} [DecidableEq κ]
def valV (kvs : List (κ × V)) (k : κ) : Option V := (kvs.find? fun kv => decide (kv.1 = k)).map (·.2)
def putK (kvs : List (κ × V)) (k : κ) (v : V) : List (κ × V) :=
  if (kvs.any fun kv => decide (kv.1 = k)) = true then kvs.map (fun kv => if kv.1 = k then (kv.1, v) else kv) else kvs ++ [(k, v)]
def dropK (kvs : List (κ × V)) (k : κ) : List (κ × V) := kvs.filter fun kv => decide (kv.1 ≠ k)
theorem valV_pos {p : κ × V} {r : List (κ × V)} {k : κ} (e : p.1 = k) : valV (p :: r) k = some p.2 := by simp [valV, List.find?_cons, e]
theorem valV_neg {p : κ × V} {r : List (κ × V)} {k : κ} (e : ¬ p.1 = k) : valV (p :: r) k = valV r k := by simp [valV, List.find?_cons, e]
theorem valV_any (k : κ) : ∀ kvs : List (κ × V), (kvs.any fun kv => decide (kv.1 = k)) = (valV kvs k).isSome
  | [] => rfl
  | p :: r => by
    rw [List.any_cons]
    by_cases e : p.1 = k
    · simp only [valV_pos e, decide_eq_true e, Bool.true_or, Option.isSome_some]
    · rw [valV_neg e, decide_eq_false e, Bool.false_or]; exact valV_any k r
theorem length_putK (kvs : List (κ × V)) (k : κ) (v : V) : (putK kvs k v).length ≤ kvs.length + 1 := by
  unfold putK
  split
  · rw [List.length_map]; omega
  · rw [List.length_append, List.length_cons, List.length_nil]; omega
theorem RelO.isSome_eq {o : Option V} {u : Option Value} (r : RelO o u) : o.isSome = u.isSome := by
  cases o with
  | none => cases u with
    | none => rfl
    | some _ => exact (show False from r).elim
  | some _ => cases u with
    | none => exact (show False from r).elim
    | some _ => rfl
theorem RelO.getD {o : Option V} {u : Option Value} {d : V} {d' : Value} (r : RelO o u) (rd : RelV d d') : RelV (o.getD d) (u.getD d') := by
  cases o with
  | none => cases u with
    | none => exact rd
    | some _ => exact (show False from r).elim
  | some _ => cases u with
    | none => exact (show False from r).elim
    | some _ => exact r
theorem KV.val {kvs : List (κ × V)} {vs : List (κ × Value)} (r : KV kvs vs) (k : κ) : RelO (valV kvs k) (valueAt vs k) := by
  unfold KV at r
  induction r with
  | nil => exact True.intro
  | @cons p q ps qs h t ih =>
    obtain ⟨h1, h2⟩ := h
    by_cases e : p.1 = k
    · have e' : q.1 = k := h1.symm.trans e
      have b : valueAt (q :: qs) k = some q.2 := by simp [valueAt, List.find?_cons, e']
      rw [valV_pos e, b]; exact h2
    · have e' : ¬ q.1 = k := fun z => e (h1.trans z)
      have b : valueAt (q :: qs) k = valueAt qs k := by simp [valueAt, List.find?_cons, e']
      rw [valV_neg e, b]; exact ih
theorem KV.any {kvs : List (κ × V)} {vs : List (κ × Value)} (r : KV kvs vs) (k : κ) : (kvs.any fun kv => decide (kv.1 = k)) = vs.any fun kv => decide (kv.1 = k) := by
  unfold KV at r
  induction r with
  | nil => rfl
  | cons h t ih => rw [List.any_cons, List.any_cons, ih, h.1]
theorem KV.repl {kvs : List (κ × V)} {vs : List (κ × Value)} (r : KV kvs vs) (k : κ) {y : V} {u : Value} (ry : RelV y u) :
    KV (kvs.map fun kv => if kv.1 = k then (kv.1, y) else kv) (vs.map fun kv => if kv.1 = k then (kv.1, u) else kv) := by
  unfold KV at r ⊢
  induction r with
  | nil => exact .nil
  | @cons p q ps qs h t ih =>
    rw [List.map_cons, List.map_cons]
    refine .cons ?_ ih
    obtain ⟨h1, h2⟩ := h
    by_cases e : p.1 = k
    · rw [if_pos e, if_pos (h1.symm.trans e)]; exact ⟨h1, ry⟩
    · rw [if_neg e, if_neg (fun z => e (h1.trans z))]; exact ⟨h1, h2⟩
theorem KV.put {kvs : List (κ × V)} {vs : List (κ × Value)} (r : KV kvs vs) (k : κ) {y : V} {u : Value} (ry : RelV y u) : KV (putK kvs k y) (stored vs k u) := by
  unfold putK stored
  rw [r.any k]
  by_cases e : (vs.any fun kv => decide (kv.1 = k)) = true
  · rw [if_pos e, if_pos e]; exact r.repl k ry
  · rw [if_neg e, if_neg e]; exact Paired.snoc r ⟨rfl, ry⟩
theorem KV.drop {kvs : List (κ × V)} {vs : List (κ × Value)} (r : KV kvs vs) (k : κ) : KV (dropK kvs k) (without vs k) := by
  unfold KV at r ⊢
  unfold dropK without
  induction r with
  | nil => exact .nil
  | @cons p q ps qs h t ih =>
    obtain ⟨h1, h2⟩ := h
    rw [List.filter_cons, List.filter_cons]
    by_cases e : p.1 = k
    · have a : ¬ decide (p.1 ≠ k) = true := by simp [e]
      have b : ¬ decide (q.1 ≠ k) = true := by simp [h1.symm.trans e]
      rw [if_neg a, if_neg b]; exact ih
    · have e' : ¬ q.1 = k := fun z => e (h1.trans z)
      have a : decide (p.1 ≠ k) = true := by simp [e]
      have b : decide (q.1 ≠ k) = true := by simp [e']
      rw [if_pos a, if_pos b]; exact .cons ⟨h1, h2⟩ ih
theorem KV.keys {kvs : List (κ × V)} {vs : List (κ × Value)} (r : KV kvs vs) : kvs.map (·.1) = vs.map (·.1) := by
  unfold KV at r
  induction r with
  | nil => rfl
  | cons h t ih => rw [List.map_cons, List.map_cons, ih, h.1]
theorem KV.length {kvs : List (κ × V)} {vs : List (κ × Value)} (r : KV kvs vs) : kvs.length = vs.length := Paired.length r
theorem dropK_le (kvs : List (κ × V)) (k : κ) : (dropK kvs k).length ≤ kvs.length := List.length_filter_le _ _
end
theorem kV_is {P : Program} {w : World} {k : Key} {u : Value} (r : RelV (kV k) u) : (mixKind P w).is k u = true := by
  cases k with
  | inl i => obtain ⟨t, e⟩ := (show ∃ t, u = Value.int i t from r); subst e; exact mixKind_int P w i t
  | inr x => obtain ⟨t, e⟩ := (show ∃ t, u = Value.str x t from r); subst e; exact mixKind_str P w x t
theorem items_are {P : Program} {w : World} : ∀ {ks : List Key} {us : List Value}, Vals (ks.map kV) us → ItemsAre (mixKind P w) ks us
  | [], _, r => by rw [List.map_nil] at r; cases r; exact .nil
  | k :: ks, _, r => by
    rw [List.map_cons] at r
    cases r with
    | cons h t => exact .cons (kV_is h) (items_are t)
abbrev KT (H : Hp) : List (List Key × V) → List (List Key × Addr × Value) → Prop := Paired fun p q => p.1 = q.1 ∧ H q.2.1 = some (.tup (p.1.map kV)) ∧ RelV p.2 q.2.2
theorem KT.val {H : Hp} {kvs : List (List Key × V)} {xs : List (List Key × Addr × Value)} (r : KT H kvs xs) (k : List Key) : RelO (valV kvs k) ((atKey xs k).map (·.2)) := by
  induction r with
  | nil => exact True.intro
  | @cons p q ps qs h t ih =>
    obtain ⟨h1, _, h2⟩ := h
    by_cases e : p.1 = k
    · have e' : q.1 = k := h1.symm.trans e
      have b : atKey (q :: qs) k = some q.2 := by simp [atKey, List.find?_cons, e']
      rw [valV_pos e, b]; exact h2
    · have e' : ¬ q.1 = k := fun z => e (h1.trans z)
      have b : atKey (q :: qs) k = atKey qs k := by simp [atKey, List.find?_cons, e']
      rw [valV_neg e, b]; exact ih
theorem KT.repl {H : Hp} {kvs : List (List Key × V)} {xs : List (List Key × Addr × Value)} (r : KT H kvs xs) (k : List Key) {y : V} {u : Value} (ry : RelV y u) :
    KT H (kvs.map fun kv => if kv.1 = k then (kv.1, y) else kv) (xs.map (putAt k u)) := by
  induction r with
  | nil => exact .nil
  | @cons p q ps qs h t ih =>
    rw [List.map_cons, List.map_cons]
    refine .cons ?_ ih
    obtain ⟨h1, h2, h3⟩ := h
    unfold putAt
    by_cases e : p.1 = k
    · rw [if_pos e, if_pos (h1.symm.trans e)]; exact ⟨h1, h2, ry⟩
    · rw [if_neg e, if_neg (fun z => e (h1.trans z))]; exact ⟨h1, h2, h3⟩
theorem KT.put {H : Hp} {kvs : List (List Key × V)} {xs : List (List Key × Addr × Value)} (r : KT H kvs xs) (k : List Key) {b : Addr} {y : V} {u : Value} (hb : H b = some (.tup (k.map kV))) (ry : RelV y u) :
    KT H (putK kvs k y) (storedH xs k b u) := by
  have e : (kvs.any fun kv => decide (kv.1 = k)) = (atKey xs k).isSome := by
    rw [valV_any, (r.val k).isSome_eq, Option.isSome_map]
  unfold putK storedH
  rw [e]
  by_cases q : (atKey xs k).isSome = true
  · rw [if_pos q, if_pos q]; exact r.repl k ry
  · rw [if_neg q, if_neg q]; exact Paired.snoc r ⟨rfl, hb, ry⟩
theorem KT.keeps {H H' : Hp} {kvs : List (List Key × V)} {xs : List (List Key × Addr × Value)} (r : KT H kvs xs) (ht : ∀ b ys, H b = some (.tup ys) → H' b = some (.tup ys)) : KT H' kvs xs :=
  Paired.mapP r fun _ _ z => ⟨z.1, ht _ _ z.2.1, z.2.2⟩
section
variable {P : Program} {w : World} {H : Hp} {h : Heap} {a : Addr}
theorem rd_of {u : HO} (ok : HOk P w H h) (e : Rd H a u) : ObjOk P w H h a u := e.ok ok
theorem dk_rd {kvs : List (Key × V)} (ok : HOk P w H h) (e : Rd H a (.dK kvs)) : kvs.length ≤ sizeLine ∧ (a == sysModules) = false ∧ ∃ vs, KV kvs vs ∧ h.DictOf (mixKind P w) a vs :=
  show ObjOk P w H h a (.dK kvs) from rd_of ok e
theorem dk_of {kvs : List (Key × V)} (ok : HOk P w H h) (e : H a = some (.dK kvs)) : kvs.length ≤ sizeLine ∧ (a == sysModules) = false ∧ ∃ vs, KV kvs vs ∧ h.DictOf (mixKind P w) a vs := dk_rd ok (.inl e)
theorem key_of {ks : List Key} (ok : HOk P w H h) (e : H a = some (.tup (ks.map kV))) : (tupleKind (mixKind P w)).is h ks a := by
  obtain ⟨_, its, r, o, h1, h2, n, h3⟩ := (show ObjOk P w H h a (.tup (ks.map kV)) from ok a _ e)
  exact ⟨o, its.toArray, n, h1, h2, h3, by simpa using items_are r⟩
theorem dt_rd {kvs : List (List Key × V)} (ok : HOk P w H h) (e : Rd H a (.dT kvs)) : kvs.length ≤ sizeLine ∧ (a == sysModules) = false ∧
    ∃ xs, KT H kvs xs ∧ h.DictOfH (tupleKind (mixKind P w)) a xs := by
  obtain ⟨z, y, xs, r, o, es, ep, h1, h2, h3, h4, h5⟩ := (show ObjOk P w H h a (.dT kvs) from rd_of ok e)
  refine ⟨z, y, xs, r, o, es, ep, h1, h2, h3, h4, fun x hx => ?_, h5⟩
  have all : ∀ {l : List (List Key × V)} {m : List (List Key × Addr × Value)}, KT H l m → ∀ x ∈ m, (tupleKind (mixKind P w)).is h x.1 x.2.1 := by
    intro l m q
    induction q with
    | nil => intro x hx; exact nomatch hx
    | @cons p q ps qs hq t ih =>
      intro x hx
      rcases List.mem_cons.mp hx with e | hx
      · subst e
        exact key_of ok (by rw [← hq.1]; exact hq.2.1)
      · exact ih x hx
  exact all r x hx
theorem dt_of {kvs : List (List Key × V)} (ok : HOk P w H h) (e : H a = some (.dT kvs)) : kvs.length ≤ sizeLine ∧ (a == sysModules) = false ∧
    ∃ xs, KT H kvs xs ∧ h.DictOfH (tupleKind (mixKind P w)) a xs := dt_rd ok (.inl e)
end
def DGet (H : Hp) (a : Addr) (y : V) (r : Option V) : Prop :=
  (∃ kvs k, Rd H a (.dK kvs) ∧ y = kV k ∧ r = valV kvs k) ∨ ∃ kvs k b, Rd H a (.dT kvs) ∧ y = .ref b ∧ H b = some (.tup (k.map kV)) ∧ r = valV kvs k
def DPut (H : Hp) (a : Addr) (y v : V) (H' : Hp) : Prop :=
  (∃ kvs k, H a = some (.dK kvs) ∧ y = kV k ∧ kvs.length < sizeLine ∧ H' = upd H a (.dK (putK kvs k v))) ∨
  ∃ kvs k b, H a = some (.dT kvs) ∧ y = .ref b ∧ H b = some (.tup (k.map kV)) ∧ kvs.length < sizeLine ∧ H' = upd H a (.dT (putK kvs k v))
theorem DGet.k {H : Hp} {a : Addr} {kvs : List (Key × V)} {k : Key} (e : H a = some (.dK kvs)) : DGet H a (kV k) (valV kvs k) := .inl ⟨kvs, k, .inl e, rfl, rfl⟩
theorem DGet.t {H : Hp} {a b : Addr} {kvs : List (List Key × V)} {k : List Key} (e : H a = some (.dT kvs)) (eb : H b = some (.tup (k.map kV))) : DGet H a (.ref b) (valV kvs k) := .inr ⟨kvs, k, b, .inl e, rfl, eb, rfl⟩
theorem DPut.k {H : Hp} {a : Addr} {kvs : List (Key × V)} {k : Key} {v : V} (e : H a = some (.dK kvs)) (hl : kvs.length < sizeLine) : DPut H a (kV k) v (upd H a (.dK (putK kvs k v))) := .inl ⟨kvs, k, e, rfl, hl, rfl⟩
theorem DPut.t {H : Hp} {a b : Addr} {kvs : List (List Key × V)} {k : List Key} {v : V} (e : H a = some (.dT kvs)) (eb : H b = some (.tup (k.map kV))) (hl : kvs.length < sizeLine) :
    DPut H a (.ref b) v (upd H a (.dT (putK kvs k v))) := .inr ⟨kvs, k, b, e, rfl, eb, hl, rfl⟩
section
variable {X : Cx} {pins : List (Addr × Obj)} {σ : St} {H : Hp} {s : Shared} {a : Addr} {y v : V} {u r : Value} {o : Option V} {A : Around} {E : Value → Shared → Prop}
theorem Inv.big (I : Inv X pins σ H s) : sysModules < s.heap.objs.size := by
  have h : mainGlobals < s.heap.objs.size := (I.mod.glob.keeps I.bk).lt
  exact Nat.lt_trans (by decide) h
theorem d_getItem {Q : Value → Shared → Prop} (hu : A.units + 1 < cLine) (I : Inv X pins σ H s) (g : DGet H a y (some v)) (ry : RelV y u) (h : ∀ w' s', Inv X pins σ H s' → RelV v w' → Q w' s') :
    wpAny (model X.prog X.w) A (getItem (.ref a) u) Q E s := by
  rcases g with ⟨kvs, k, e, ey, l⟩ | ⟨kvs, k, b, e, ey, eb, l⟩
  · subst ey
    obtain ⟨z, hd, vs, rel, dd⟩ := dk_rd I.hok e
    obtain ⟨w', hw, rw'⟩ := RelO.some_of (v := v) (o := valueAt vs k) (by rw [l]; exact rel.val k)
    exact wpAny_getItem_of (kV_is ry) dd.mapOf hw (h w' _ (I.tok _) rw')
  · subst ey
    cases (show u = Value.ref b from ry)
    obtain ⟨z, hd, xs, rel, dd⟩ := dt_rd I.hok e
    obtain ⟨w', hw, rw'⟩ := RelO.some_of (v := v) (o := (atKey xs k).map (·.2)) (by rw [l]; exact rel.val k)
    obtain ⟨p, hp, hp2⟩ := Option.map_eq_some_iff.mp hw
    refine wpAny_getItem_heap (tupleKind_room_in1 hu) (key_of I.hok eb) dd hp ?_
    rw [hp2]
    exact h w' _ (I.tok _) rw'
theorem d_write {h' : Heap} {t' : Nat} {ob : HO} (I : Inv X pins σ H s) (mu : Mut (H a)) (hs : Heap.SameBut a s.heap h') (he : ∃ q, h'.get? a = some q) (new : ObjOk X.prog X.w (upd H a ob) h' a ob) :
    Inv X pins σ (upd H a ob) { s with heap := h', toks := t' } :=
  I.write (x := a) (e := a) mu (.inl rfl) (fun b q hb z => (hs.2 b hb).trans z) he new
theorem dk_new {P : Program} {w : World} {H' : Hp} {h' : Heap} {kvs : List (Key × V)} {vs : List (Key × Value)} (z : kvs.length ≤ sizeLine) (hd : (a == sysModules) = false) (rel : KV kvs vs) (dd : h'.DictOf (mixKind P w) a vs) :
    ObjOk P w H' h' a (.dK kvs) := ⟨z, hd, vs, rel, dd⟩
theorem d_setItem {H' : Hp} {Q : Unit → Shared → Prop} (hu : A.units + 1 < cLine) (I : Inv X pins σ H s) (g : DPut H a y v H') (ry : RelV y u) (rv : RelV v r) (h : ∀ s', Inv X pins σ H' s' → Q () s') :
    wpAny (model X.prog X.w) A (setItem (.ref a) u r) Q E s := by
  rcases g with ⟨kvs, k, e, ey, l, eH⟩ | ⟨kvs, k, b, e, ey, eb, l, eH⟩
  · subst ey eH
    obtain ⟨z, hd, vs, rel, dd⟩ := dk_of I.hok e
    have hz : vs.length ≤ sizeLine := by rw [← rel.length]; exact z
    have hl : (putK kvs k v).length ≤ sizeLine := by have := length_putK kvs k v; omega
    refine wpAny_setItem_pairs (hsz := hz) (kV_is ry) dd fun h' dd' hs => h _ ?_
    have he : ∃ q, h'.get? a = some q := let ⟨q, _, _, hq, _⟩ := dd'; ⟨q, hq⟩
    exact d_write I (by rw [e]; exact True.intro) hs he (dk_new hl hd (rel.put k rv) dd')
  · subst ey eH
    cases (show u = Value.ref b from ry)
    obtain ⟨z, hd, xs, rel, dd⟩ := dt_of I.hok e
    have hz : xs.length ≤ sizeLine := by rw [← Paired.length rel]; exact z
    have hl : (putK kvs k v).length ≤ sizeLine := by have := length_putK kvs k v; omega
    refine wpAny_setItem_heap (hsz := hz) (tupleKind_room_in1 hu) (key_of I.hok eb) dd fun h' dd' hs => h _ ?_
    obtain ⟨q, es, ep, hq, h2, h3, h4, _, h5⟩ := dd'
    refine d_write I (by rw [e]; exact True.intro) hs ⟨q, hq⟩ ⟨hl, hd, _, (rel.put k eb rv).keeps fun c ys ec => ?_, q, es, ep, hq, h2, h3, h4, h5⟩
    rw [upd_ne (ne_of ec e (fun z => nomatch z))]
    exact ec
end
section
variable {X : Cx} {pins : List (Addr × Obj)} {σ : St} {H : Hp} {s : Shared} {a : Addr} {kvs : List (Key × V)} {k : Key} {u : Value} {A : Around} {E : Value → Shared → Prop}
theorem d_len {Q : Value → Shared → Prop} (I : Inv X pins σ H s) (e : Rd H a (.dK kvs)) (h : ∀ t s', Inv X pins σ H s' → Q (.int kvs.length t) s') : wpAny (model X.prog X.w) A (call (.builtin "len") [.ref a]) Q E s := by
  obtain ⟨z, hd, vs, rel, dd⟩ := dk_rd I.hok e
  refine call_len_dict hd dd (by rw [← rel.length]; rw [sizeLine_eq] at z; omega) ?_
  rw [← rel.length]
  exact h _ _ (I.tok _)
end
theorem dict_typeIs {X : Cx} {pins : List (Addr × Obj)} {σ : St} {H : Hp} {s : Shared} {a : Addr} {y : V} {o : Option V} (I : Inv X pins σ H s) (g : DGet H a y o) : s.TypeIs (.ref a) "dict" := by
  rcases g with ⟨kvs, k, e, _, _⟩ | ⟨kvs, k, b, e, _, _, _⟩
  · obtain ⟨_, _, vs, _, dd⟩ := dk_rd I.hok e
    exact dd.typeIs
  · obtain ⟨_, _, xs, _, dd⟩ := dt_rd I.hok e
    exact dd.typeIs
section
variable {X : Cx} {o i e value : Expr} {pos pos' tpos : Pos} {td ty tv : TE}
end
theorem dk_empty {P : Program} {w : World} {H : Hp} (h : Heap) (hb : sysModules < h.objs.size) : ObjOk P w H (h.push { cls := .type "dict", data := .dict #[] }) h.objs.size (.dK []) :=
  ⟨Nat.zero_le _, beq_eq_false_iff_ne.mpr (Ne.symm (Nat.ne_of_lt hb)), [], .nil, Heap.DictOf.new h⟩
def tDNewK : TE := fun _ H Q => ∀ p, H p = none → Q (.ref p) (upd H p (.dK []))
section
variable {X : Cx} {pos : Pos}
theorem pe_dnewK : PE X (.Dict [] [] pos) tDNewK := fun pins s σ H Q I h =>
  wpAny_Dict_empty ⟨.ref s.heap.objs.size, _, I.laid (a := s.heap.objs.size) (o := .dK []) (t' := s.toks) (fun _ _ q => Heap.get?_push_of_some _ q) (Nat.le_refl _) (dk_empty s.heap I.big), rfl, h _ (I.hok.fresh (Nat.le_refl _))⟩
end
def mergeK (kvs more : List (Key × V)) : List (Key × V) := more.foldl (fun acc kv => putK acc kv.1 kv.2) kvs
theorem KV.merge : ∀ {more : List (Key × V)} {rs : List (Key × Value)} {kvs : List (Key × V)} {vs : List (Key × Value)}, KV more rs → KV kvs vs → KV (mergeK kvs more) (merged vs rs) := by
  intro more rs kvs vs r
  unfold KV at r
  induction r generalizing kvs vs with
  | nil => intro q; exact q
  | @cons p q ps qs h t ih =>
    intro r0
    have e : KV (putK kvs p.1 p.2) (stored vs q.1 q.2) := by
      have := r0.put p.1 h.2
      rw [← h.1]; exact this
    exact ih e
structure M1 (X : Cx) (o : Expr) (m : Str) (apos : Pos) (e : Expr) (cpos : Pos) : Prop where
  base : attributeBase o m X.env (eval o X.env) = eval o X.env
  few : ((backTo cpos (starEach [e] X.env)).all (fun x => !x.1) && (backToKw cpos (keywordEach [] X.env)).all (fun x => x.1.isSome)
    && decide (([e] : List Expr).length + ([] : List Keyword).length + (if ([] : List Keyword).isEmpty then 0 else 1) < 30)) = true
  line : (apos.endLine == cpos.line) = true
  trees : backTo cpos (starEach [e] X.env) = [(false, eval e X.env)]
structure M2 (X : Cx) (o : Expr) (m : Str) (apos : Pos) (e f : Expr) (cpos : Pos) : Prop where
  base : attributeBase o m X.env (eval o X.env) = eval o X.env
  few : ((backTo cpos (starEach [e, f] X.env)).all (fun x => !x.1) && (backToKw cpos (keywordEach [] X.env)).all (fun x => x.1.isSome)
    && decide (([e, f] : List Expr).length + ([] : List Keyword).length + (if ([] : List Keyword).isEmpty then 0 else 1) < 30)) = true
  line : (apos.endLine == cpos.line) = true
  trees : backTo cpos (starEach [e, f] X.env) = [(false, eval e X.env), (false, eval f X.env)]
def IsD (H : Hp) (a : Addr) : Prop := (∃ kvs, Rd H a (.dK kvs)) ∨ ∃ kvs, Rd H a (.dT kvs)
theorem isD_at {X : Cx} {pins : List (Addr × Obj)} {σ : St} {H : Hp} {s : Shared} {a : Addr} (I : Inv X pins σ H s) (d : IsD H a) :
    s.TypeIs (.ref a) "dict" ∧ (∀ b, Value.ref a = .ref b → ∃ ob, s.heap.get? b = some ob ∧ ob.dict = none) ∧ (a == sysModules) = false := by
  rcases d with ⟨kvs, e⟩ | ⟨kvs, e⟩
  · obtain ⟨_, hd, vs, _, dd⟩ := dk_rd I.hok e
    refine ⟨dd.typeIs, fun b q => ?_, hd⟩
    cases q
    obtain ⟨ob, _, _, h1, h2, _⟩ := dd
    exact ⟨ob, h1, h2.2.1⟩
  · obtain ⟨_, hd, xs, _, dd⟩ := dt_rd I.hok e
    refine ⟨dd.typeIs, fun b q => ?_, hd⟩
    cases q
    obtain ⟨ob, _, _, h1, h2, _⟩ := dd
    exact ⟨ob, h1, h2.2.1⟩
section
variable {X : Cx} {pins : List (Addr × Obj)} {σ : St} {H : Hp} {s : Shared} {a : Addr} {y d : V} {u r : Value} {o : Option V} {A : Around} {E : Value → Shared → Prop}
theorem d_get2 {Q : Value → Shared → Prop} (hu : A.units + 1 < cLine) (I : Inv X pins σ H s) (g : DGet H a y o) (ry : RelV y u) (rd : RelV d r) (h : ∀ w' s', Inv X pins σ H s' → RelV (o.getD d) w' → Q w' s') :
    wpAny (model X.prog X.w) A (call (.builtin "dict.get") [.ref a, u, r]) Q E s := by
  rcases g with ⟨kvs, k, e, ey, l⟩ | ⟨kvs, k, b, e, ey, eb, l⟩
  · subst ey
    obtain ⟨z, hd, vs, rel, dd⟩ := dk_rd I.hok e
    refine call_meetsIn PySem.F.slot_dict_get dd.typeIs PySem.F.entry_dict_get (PySem.F.args_dict_get_3 _ _ _) (meets_dict_get_default (mixKind X.prog X.w) a (kV_is ry) hd r) ⟨_, dd.mapOf, h _ _ (I.tok _) ?_⟩
    rw [l]
    exact (rel.val k).getD rd
  · subst ey
    cases (show u = Value.ref b from ry)
    obtain ⟨z, hd, xs, rel, dd⟩ := dt_rd I.hok e
    refine call_meetsIn PySem.F.slot_dict_get dd.typeIs PySem.F.entry_dict_get (PySem.F.args_dict_get_3 _ _ _) (meetsH_dict_get_default (tupleKind (mixKind X.prog X.w)) a b hd r) ⟨tupleKind_room_in1 hu, k, xs, key_of I.hok eb, dd, h _ _ (I.tok _) ?_⟩
    rw [l]
    exact (rel.val k).getD rd
end
def tDGet2 (td ty tx : TE) : TE := fun σ H Q => td σ H fun x H1 => ∃ a, x = .ref a ∧ IsD H1 a ∧ ty σ H1 fun y H2 => tx σ H2 fun z H3 => ∃ o, DGet H3 a y o ∧ Q (o.getD z) H3
section
variable {X : Cx} {o e f : Expr} {apos cpos : Pos} {td ty tx : TE}
theorem pe_dget2 (hu : X.A.units + 1 < cLine) (ho : PE X o td) (he : PE X e ty) (hf : PE X f tx) (m : M2 X o "get" apos e f cpos) : PE X (.Call (.Attribute o "get" apos) [e, f] [] cpos) (tDGet2 td ty tx) := by
  intro pins s σ H Q I h
  refine wpAny_Call_method m.base m.few m.line PySem.F.plainAttrs_dict PySem.F.slot_dict_get PySem.F.type_dict_get (thn (ho pins s σ H _ I h) fun u s1 ⟨x, H1, I1, rx, a, ex, d, q1⟩ => ?_)
  subst ex
  obtain rfl : u = Value.ref a := rx
  obtain ⟨t1, t2, _⟩ := isD_at I1 d
  refine ⟨t1, t2, ?_⟩
  rw [m.trees]
  refine Calls.callWith_builtin rfl (Calls.evalArgs_plain (Calls.spliced_cons (thn (he pins s1 σ H1 _ I1 q1) fun iv s2 ⟨y, H2, I2, ry, q2⟩ =>
    Calls.spliced_cons (thn (hf pins s2 σ H2 _ I2 q2) fun fv s3 ⟨z, H3, I3, rz, ov, g, q3⟩ => Calls.spliced_nil ?_))))
  exact d_get2 hu I3 g ry rz fun w' s4 I4 rw' => ⟨_, H3, I4, rw', q3⟩
end
section
variable {X : Cx} {pins : List (Addr × Obj)} {σ : St} {H : Hp} {s : Shared} {a : Addr} {kvs : List (Key × V)} {A : Around} {E : Value → Shared → Prop}
end
section
variable {X : Cx} {pins : List (Addr × Obj)} {σ : St} {H : Hp} {s : Shared} {a : Addr} {y : V} {u : Value} {A : Around} {E : Value → Shared → Prop}
end
end L2
namespace Att
open PySem PySem.W PySem.Calls PyProof.Rows
theorem ints_of_wellAll {P : Params} {h : Heap} : ∀ (ns : List Int) (vs : List Value), WellAll P h vs (ns.map WData.int) → IntsAre vs ns := by
  intro ns
  induction ns with
  | nil =>
    intro vs w
    rw [List.map_nil] at w
    cases w
    exact .nil
  | cons n ns ih =>
    intro vs w
    rw [List.map_cons] at w
    cases w with
    | cons a b =>
      cases a
      exact .cons _ _ (ih _ b)
theorem script_of {l : OpenLaw} {n : Nat} (hn : l.most = some n) {P : Params} {h : Heap} {args : List WData} {vals : List Value}
    (hpre : l.row.toRowW.claim.pre args = true) (hwl : WellAll P h vals args) :
    ∃ a vs ns, vals = [Value.ref a] ∧ args = [WData.list (ns.map WData.int)] ∧ h.get? a = some { cls := .type "list", data := .seq vs.toArray } ∧ IntsAre vs ns ∧ ns.length ≤ n := by
  have hsh : WShape.hasAll [] args [.list .int] = true := (pre_splitW hpre).1
  have hc : l.pre.holds [] { args := args } = true := (pre_splitW hpre).2
  obtain ⟨d, r, rfl, h1, h2⟩ := hasAllW_cons hsh
  obtain rfl := hasAllW_nil h2
  obtain ⟨xs, rfl, h3⟩ := hasW_list h1
  obtain ⟨ns, rfl⟩ := items_int h3
  have hlen : ns.length ≤ n := by
    unfold OpenLaw.pre at hc
    have h4 : (WTm.not (.lt (.lit (.int (n : Int))) (.len (.arg 0)))).holds [] { args := [.list (ns.map .int)] } = true := by
      have h4 := (holds_andW hc).1
      rw [hn] at h4
      exact h4
    have h5 := condW_of h4 (w_not (w_lt w_lit (w_len_list (w_arg rfl))))
    rw [List.length_map] at h5
    refine Nat.le_of_not_lt fun q => ?_
    have q' : (n : Int) < ((ns.length : Nat) : Int) := by omega
    first
      | (rw [decide_eq_true q'] at h5; exact absurd h5 (by decide))
      | (simp at h5; omega)
  cases hwl with
  | cons w1 w2 =>
    cases w2
    cases w1 with
    | list ho hall => exact ⟨_, _, ns, rfl, rfl, ho, ints_of_wellAll ns _ hall, hlen⟩
theorem post_true (l : OpenLaw) (args : List WData) : l.row.toRowW.claim.post args (.bool true) args = true :=
  postW_of (r := l.row.toRowW) (X := (true == true))
    (show WShape.has [] (.bool true) .bool = true by first | rfl | decide | simp [WShape.has, WShape.arms, WShape.armsAll])
    (show (WTm.eq .res (.lit (.bool true))).value [] { args := args, res := some (.bool true), after := args } = some (.bool (true == true)) from w_eq_bool (w_res rfl) w_lit) rfl
theorem attach_call {l : OpenLaw} {n : Nat} {q : Program} {loose : List Str} {XP : (Str → Option Value) → Heap → Prop} {YP : World → Heap → Prop} {d : DefRec}
    (hn : l.most = some n) (hdf : d.params.defaults = [])
    (call : ∀ (w : World) (s₀ s₁ : Shared) (mg mb : Str → Option Value) (fa : Addr) (o : Obj) (pm cd doc : Value) (a : Addr) (vs : List Value) (ns : List Int),
      Ground q loose [] XP w s₀ mg mb s₁.heap → YP w s₁.heap →
      s₁.heap.get? fa = some o → o.data = .func (docDef d.name d.params d.body d.scope pm cd doc) → s₁.heap.CodeRec cd d.name → mg d.name = some (.ref fa) →
      s₁.heap.get? a = some { cls := .type "list", data := .seq vs.toArray } → IntsAre vs ns → ns.length ≤ n → s₁.gens = #[] →
      codeAny (model l.prog w) callerA (.call (.ref fa) ⟨[.ref a], []⟩) (fun r s' => r = .ok (.ret (.bool true)) ∧ OldK s₁.heap s'.heap ∧ s'.os = s₁.os ∧ AllBare s'.gens) s₁) :
    WalkO q loose XP YP l.row.toRowW d [] (fun f vs => PySem.call f vs) := by
  intro w s₀ s₁ mg mb G Y fa o pm cd doc dV kV ho hd hcd hD hmg hg args vals as hpre hlay hrd hwl hlo
  obtain rfl : dV = .none := Dflts.none hD hdf
  obtain rfl : kV = .none := Dflts.noKw hD
  obtain ⟨a, vs, ns, rfl, rfl, hobj, hints, hlen⟩ := script_of hn hpre hwl
  refine enter_call (codeAny_mono (call w s₀ s₁ mg mb fa o pm cd doc a vs ns G Y ho (fd_plain hd) hcd hmg hobj hints hlen hg) fun r s' hq => ?_)
  obtain ⟨rfl, h2, h3, h4⟩ := hq
  exact ⟨.inl ⟨.bool true, .bool true, [], rfl, fun _ => rfl, .bool true, post_true l _, fun _ => ⟨List.Pairwise.nil, fun _ hm => (nomatch hm)⟩⟩, h2, h3, h4⟩
section
variable {prog : Program} {w : World} {A : Around} {E : Value → Shared → Prop} {s : Shared} {K : Frag}
end
end Att
namespace L2
open PySem PySem.Spec PyProof.Rows
theorem vals_ints : ∀ {vs : List Value} {ns : List Int}, IntsAre vs ns → Vals (ns.map V.int) vs
  | _, _, .nil => .nil
  | _, _, .cons n t h => .cons ⟨t, rfl⟩ (vals_ints h)
def Only (H : Hp) : Prop := ∀ b, H b = none ∨ ∃ o xs, H b = some (.frz o (.lst xs))
theorem law_call {P : Program} {w : World} {K : PySem.W.Frag} {mg mb : Str → Option Value} {CX : CXT} {k : Nat} {fa a : Addr} {fd : FuncData} {x : Str} {sp : Sp} {s₁ : Shared} {vs : List Value} {ns : List Int}
    (KX : K.In s₁.heap) (hns : s₁.heap.Ns mainGlobals mg) (hb : s₁.heap.Ns builtinsNs mb) (hbb : ∀ x : Str, x ≠ "__name__" → mb x = bootBuiltins x) (hlim : s₁.heap.NoLimit) (hg : s₁.gens = #[])
    (ha : s₁.heap.get? a = some { cls := .type "list", data := .seq vs.toArray }) (hi : IntsAre vs ns) (hl : ns.length ≤ sizeLine) (hr : Room k callerA)
    (F : ∀ base : Heap, K.In base → base.Ns mainGlobals mg → FnOk P w K mg base CX k fa fd [x] sp) (hbind : ∀ (s : Shared) (u : Value), BindsTo s fd ⟨[u], []⟩ [(x, u)])
    (hsp : ∀ H : Hp, Only H → SqL K H a (ns.map V.int) → sp [.ref a] H (fun v _ => v = .bl true) fun _ _ _ => False)
    (hCX : ∀ H e s', CX [] H s₁ (fun _ _ _ => False) e s' → False) :
    codeAny (model P w) callerA (.call (.ref fa) ⟨[.ref a], []⟩) (fun r s' => r = .ok (.ret (.bool true)) ∧ OldK s₁.heap s'.heap ∧ s'.os = s₁.os ∧ AllBare s'.gens) s₁ := by
  have rv := vals_ints hi
  have lenV := hi.length
  -- from an abstract heap in which nothing but the script may be tracked
  have core : ∀ H : Hp, Only H → SqL K H a (ns.map V.int) → HOk P w H s₁.heap → (∀ b, H b ≠ none → b = a) → (H a ≠ none → K.lookup a = none) →
      codeAny (model P w) callerA (.call (.ref fa) ⟨[.ref a], []⟩) (fun r s' => r = .ok (.ret (.bool true)) ∧ OldK s₁.heap s'.heap ∧ s'.os = s₁.os ∧ AllBare s'.gens) s₁ := by
    intro H hO hS hok hA hK
    have base_of : ∀ {b : Addr} {o : Obj}, s₁.heap.get? b = some o → H b = none → (hidT s₁.heap H).get? b = some o := fun e n => hidT_get e n
    have noA : ∀ {b : Addr} {o : Obj} {es : Array DictEntry} {ep : Nat}, s₁.heap.get? b = some o → o.data = .dict es ep → H b = none := fun {b o es ep} e d => by
      cases q : H b with
      | none => rfl
      | some u =>
        have e' : b = a := hA b (by rw [q]; simp)
        subst e'
        rw [ha] at e; cases e
        have d' : Data.seq vs.toArray _ = Data.dict es ep := d
        cases d'
    have nsK : ∀ {b : Addr} {m : Str → Option Value}, s₁.heap.Ns b m → (hidT s₁.heap H).Ns b m := fun {b m} ⟨o, es, ep, e, d, r⟩ => ⟨o, es, ep, base_of e (noA e d), d, r⟩
    have hKb : K.In (hidT s₁.heap H) := fun b o e => base_of (KX b o e) (by
      cases q : H b with
      | none => rfl
      | some u =>
        have e' : b = a := hA b (by rw [q]; simp)
        subst e'
        rw [hK (by rw [q]; simp)] at e; cases e)
    have hM : Mod K mg (hidT s₁.heap H) := ⟨hKb, nsK hns, ⟨mb, nsK hb, hbb⟩, let ⟨mc, h1, h2⟩ := hlim; ⟨mc, nsK h1, h2⟩⟩
    have e0 : Env0 P w K mg (hidT s₁.heap H) callerA [] s₁ H := ⟨rfl, hM, fun b o e => of_hidT e, Nat.le_of_eq (hidT_size _ _), trivial, fun b hb => absurd (show b ∈ ([] : List Addr) from hb) (by simp), hok, .of_eq hg⟩
    refine codeAny_mono ((F _ hKb (nsK hns)).run callerA [] s₁ H ⟨[.ref a], []⟩ [.ref a] [.ref a] _ _ hr e0 (hbind s₁ (.ref a)) (.cons rfl .nil) (hsp H hO hS)) fun r s' h => ?_
    cases r with
    | error e => exact (hCX H e s' h).elim
    | ok fl =>
      cases fl with
      | next => exact False.elim h
      | brk => exact False.elim h
      | cont => exact False.elim h
      | ret u =>
        obtain ⟨v, H', os, bare, un, hok', r', q⟩ := h
        have q' : v = .bl true := q
        subst q'
        obtain rfl : u = Value.bool true := r'
        refine ⟨rfl, OldK.of_keep fun b o e => ?_, os, bare⟩
        cases q : H b with
        | none => exact un.keep b o e q (by intro z; exact absurd (show b ∈ ([] : List Addr) from z) (by simp)) (by simp)
        | some u =>
          rcases hO b with z | ⟨ob, xs, z⟩
          · rw [q] at z; cases z
          · have z2 := un.frzs b ob _ z
            obtain ⟨e1, _⟩ := hok b _ z
            obtain ⟨e2, _⟩ := hok' b _ z2
            rw [e] at e1; cases e1
            exact e2
  cases hk : K.lookup a with
  | some o =>
    -- the script is one of the module's own objects
    have e := KX a o hk
    rw [ha] at e
    cases e
    refine core (fun _ => none) (fun _ => .inl rfl) (.inr ⟨_, vs.toArray, _, hk, rfl, rfl, rfl, by rw [List.size_toArray, lenV]; exact hl, by simpa using rv⟩) (fun b u z => by have z' : (none : Option HO) = some u := z; cases z') (fun b z => absurd rfl z) fun z => absurd rfl z
  | none =>
    refine core (fun b => if b = a then some (.frz { cls := .type "list", data := .seq vs.toArray } (.lst (ns.map V.int))) else none) (fun b => ?_) (.inl (.inr ⟨{ cls := .type "list", data := .seq vs.toArray }, if_pos rfl⟩)) (fun b u z => ?_) (fun b z => ?_) fun _ => hk
    · by_cases hb : b = a
      · exact .inr ⟨_, _, if_pos hb⟩
      · exact .inl (if_neg hb)
    · by_cases hb : b = a
      · have z' := (if_pos hb).symm.trans z
        cases z'
        subst hb
        exact ⟨ha, by rw [List.length_map]; exact hl, vs, _, rv, ha⟩
      · have z' := (if_neg hb).symm.trans z
        cases z'
    · by_cases hb : b = a
      · exact hb
      · exact absurd (if_neg hb) z
end L2
namespace L2
open PySem PySem.Spec PyProof.Rows
theorem walk_of {l : PySem.W.OpenLaw} {n k : Nat} {q : Program} {loose : List Str} {XP : (Str → Option Value) → Heap → Prop} {YP : World → Heap → Prop} {d : DefRec} {K : Params → PySem.W.Frag} {CX : World → CXT} {sp : World → Sp} {x : Str}
    (hn : l.most = some n) (hn2 : n ≤ sizeLine) (hdf : d.params.defaults = []) (hr : Room k callerA)
    (hY : ∀ (w : World) (h : Heap), YP w h → (K w.params).In h)
    (F : ∀ (w : World) (mg : Str → Option Value) (fa : Addr) (h : Heap), (K w.params).In h → h.Ns mainGlobals mg → mg d.name = some (.ref fa) →
      ∃ fd : FuncData, (∀ (s : Shared) (u : Value), BindsTo s fd ⟨[u], []⟩ [(x, u)]) ∧
        ∀ base : Heap, (K w.params).In base → base.Ns mainGlobals mg → FnOk l.prog w (K w.params) mg base (CX w) k fa fd [x] (sp w))
    (hsp : ∀ (w : World) (H : Hp) (a : Addr) (ns : List Int), ns.length ≤ n → Only H → SqL (K w.params) H a (ns.map V.int) → sp w [.ref a] H (fun v _ => v = .bl true) fun _ _ _ => False)
    (hCX : ∀ (w : World) (H : Hp) (s : Shared) (e : Value) (s' : Shared), CX w [] H s (fun _ _ _ => False) e s' → False) :
    PySem.W.WalkO q loose XP YP l.row.toRowW d [] (fun f vs => PySem.call f vs) := by
  refine Att.attach_call hn hdf fun w s₀ s₁ mg mb fa o pm cd doc a vs ns G Y ho hd hcd hmg hobj hints hlen hg => ?_
  have KX := hY w _ Y
  obtain ⟨fd, hb, hF⟩ := F w mg fa _ KX G.T.g hmg
  exact law_call KX G.T.g G.T.b G.T.builtins G.T.nolimit hg hobj hints (Nat.le_trans hlen hn2) hr hF hb (fun H hO hS => hsp w H a ns hlen hO hS) fun H e s' => hCX w H s₁ e s'
end L2
namespace L2
open PySem PySem.Spec PyProof.Rows
def defArgs (s : Stmt) : Arguments := match s with
  | .FunctionDef _ a _ _ _ _ _ _ _ _ => a
  | _ => { posonlyargs := [], args := [], vararg := none, kwonlyargs := [], kw_defaults := [], kwarg := none, defaults := [] }
def defBody (s : Stmt) : List Stmt := match s with
  | .FunctionDef _ _ b _ _ _ _ _ _ _ => b
  | _ => []
def defScope (s : Stmt) : Scope := match s with
  | .FunctionDef _ _ _ _ _ _ sc _ _ _ => sc
  | _ => { kind := .function, names := [], isGenerator := false, isCoroutine := false }
abbrev CX0 : CXT := fun _ _ _ _ _ _ => False
abbrev E0 : XK := fun _ _ _ => False
theorem pass0 {X : Cx} : Passes CX0 X E0 := fun _ _ _ _ _ _ _ h => h.elim
structure Fun (K : PySem.W.Frag) (x qual : Str) (st : Stmt) (f : Addr) (fd : FuncData) : Prop where
  ex : ∃ (oc : Value) (od : Option Addr) (kV doc pm : Value) (an : Option Addr) (cdv ct : Value) (osl : Array (Option Value)),
    fd = PySem.W.fnOf x qual (defArgs st) (defBody st) (defScope st) .none kV doc pm an cdv ct ∧ K.lookup f = some ⟨oc, od, .func fd, osl⟩ ∧ PySem.W.codeIn K cdv qual = true
  kp : PySem.W.keepIn K (.ref f) = true
section
variable {P : Program} {w : World} {K : PySem.W.Frag} {mg : Str → Option Value} {base : Heap}
theorem Fun.ok {x qual : Str} {st : Stmt} {f : Addr} {fd : FuncData} {N ps : List Str} {k : Nat} {sp : Sp} (F : Fun K x qual st f fd) (S : FnScope N ps (defScope st)) (len : ∀ vs H Q E, sp vs H Q E → vs.length = ps.length)
    (hbody : ∀ (cdv : Value) (A : Around) (outer : List Env) (s : Shared) (H : Hp) (vs : List V) (Q : VK) (E : XK), Room k (A.deeper (envOfC qual (defScope st) s.heap.objs.size f cdv)) → sp vs H Q E →
      ∃ t, PSs (cxOf CX0 P w K mg base N qual (defScope st) f cdv A outer s H E).nox (defBody st) t ∧ t { nx := fun _ H' => Q .non H', rt := Q } (start N vs) H) : FnOk P w K mg base CX0 (k + 1) f fd ps sp := by
  obtain ⟨oc, od, kV, doc, pm, an, cdv, ct, osl, rfl, lk, hcd⟩ := F.ex
  refine fn_of lk hcd S len fun A outer s H vs Q E hr hsp => ?_
  obtain ⟨t, h, q⟩ := hbody cdv A outer s H vs Q E hr hsp
  exact ⟨t, h.nox, q⟩
theorem Fun.binds {x qual : Str} {st : Stmt} {f : Addr} {fd : FuncData} {ps : List Str} (F : Fun K x qual st f fd)
    (h : ∀ (kV doc pm : Value) (an : Option Addr) (cdv ct : Value) (us : List Value), us.length = ps.length → bindArgs (PySem.W.fnOf x qual (defArgs st) (defBody st) (defScope st) .none kV doc pm an cdv ct) ⟨us, []⟩ = pure (ps.zip us)) : Binds K fd ps [] := by
  obtain ⟨oc, od, kV, doc, pm, an, cdv, ct, osl, rfl, lk, hcd⟩ := F.ex
  exact .all (h kV doc pm an cdv ct)
theorem fun_mk {x qual : Str} {st : Stmt} {f : Addr} {oc : Value} {od an : Option Addr} {osl : Array (Option Value)} {kV doc pm cdv ct : Value} (l : K.lookup f = some ⟨oc, od, .func (PySem.W.fnOf x qual (defArgs st) (defBody st) (defScope st) .none kV doc pm an cdv ct), osl⟩)
    (c : PySem.W.codeIn K cdv qual = true) (k : PySem.W.keepIn K (.ref f) = true) : Fun K x qual st f (PySem.W.fnOf x qual (defArgs st) (defBody st) (defScope st) .none kV doc pm an cdv ct) := ⟨⟨oc, od, kV, doc, pm, an, cdv, ct, osl, rfl, l, c⟩, k⟩
end
theorem hu_of {A : Around} {k : Nat} (hr : Room k A) : A.units + 1 < cLine := Nat.lt_of_le_of_lt (Nat.add_le_add_left (by decide : 1 ≤ 64) _) hr.units
section
variable {X : Cx}
theorem pv (i : Nat) {x : Str} {pos : Pos} (hN : X.N[i]? = some x := by rfl) (hv : Vis X.env.scope x := by first | exact Or.inl rfl | exact Or.inr (Or.inl rfl) | exact Or.inr (Or.inr rfl)) (hd : (x == ("__debug__" : Str)) = false := by decide)
    (hcd : (x == ("__classdict__" : Str)) = false := by decide) : PE X (.Name x pos) (tVar i) := pe_var hN hv hd hcd
theorem call_lenD : CallR X (.builtin "len") (fun xs H Q => ∃ a kvs, xs = [V.ref a] ∧ H a = some (.dK kvs) ∧ Q (.int kvs.length) H) := by
  intro pins s σ H xs us Q I r h
  obtain ⟨a, kvs, rfl, ha, q⟩ := h
  obtain ⟨u, rfl, ru⟩ := vals1 r
  cases ru
  exact d_len I (.inl ha) fun t s' I' => ⟨.int kvs.length, H, I', ⟨t, rfl⟩, q⟩
end
def Same (H H' : Hp) : Prop := ∀ b o, H b = some o → H' b = some o
theorem Same.refl (H : Hp) : Same H H := fun _ _ h => h
theorem Same.trans {H H1 H2 : Hp} (a : Same H H1) (b : Same H1 H2) : Same H H2 := fun c o h => b c o (a c o h)
theorem Same.free {H H' : Hp} (e : Same H H') {l : Addr} (h : H' l = Option.none) : H l = Option.none := by
  cases q : H l with
  | none => rfl
  | some o =>
    rw [e l o q] at h
    cases h
theorem Same.seq {K : PySem.W.Frag} {H H' : Hp} {a : Addr} {xs : List V} (e : Same H H') (h : SqL K H a xs) : SqL K H' a xs := by
  rcases h with (h | ⟨o, h⟩) | h
  · exact .inl (.inl (e _ _ h))
  · exact .inl (.inr ⟨o, e _ _ h⟩)
  · exact .inr h
section
variable {κ : Type} [DecidableEq κ]
end
end L2
set_option Elab.async false
set_option linter.all false
set_option maxRecDepth 100000
set_option maxHeartbeats 4000000
namespace L2
open PySem PySem.Spec PyProof.Rows
theorem closure_run {env : Env} : ∀ (names : List (Str × NameKind)) (acc : List (Str × Addr)),
    (∀ x ∈ names, x.2 = .free → ∃ c, env.cells.lookup x.1 = some c) → (∀ y c, acc.lookup y = some c → env.cells.lookup y = some c) →
    ∃ cl : List (Str × Addr), (forIn names acc (fun (x : Str × NameKind) (cs : List (Str × Addr)) =>
        if (x.2 == NameKind.free) = true then do
          let c ← cellOf env x.1
          pure (ForInStep.yield ((x.1, c) :: cs))
        else pure (ForInStep.yield cs)) : Sem (List (Str × Addr))) = pure cl ∧
      (∀ y c, cl.lookup y = some c → env.cells.lookup y = some c) ∧ (∀ y, (acc.lookup y).isSome = true → (cl.lookup y).isSome = true) ∧
      ∀ x ∈ names, x.2 = .free → (cl.lookup x.1).isSome = true
  | [], acc, _, ha => ⟨acc, by rw [List.forIn_nil], ha, fun _ h => h, fun _ h => nomatch h⟩
  | (n, k) :: r, acc, hn, ha => by
    rw [List.forIn_cons]
    by_cases hk : k = .free
    · subst hk
      obtain ⟨c, hc⟩ := hn (n, .free) List.mem_cons_self rfl
      have hc' : env.cells.lookup n = some c := hc
      obtain ⟨cl, e, h1, h2, h3⟩ := closure_run r ((n, c) :: acc) (fun x hx => hn x (List.mem_cons_of_mem _ hx)) (fun y c' h => by
        rw [List.lookup_cons] at h
        cases q : y == n with
        | true => rw [q] at h; cases h; rw [beq_iff_eq.mp q]; exact hc'
        | false => rw [q] at h; exact ha y c' h)
      refine ⟨cl, ?_, h1, fun y hy => h2 y ?_, fun x hx hf => ?_⟩
      · have e0 : cellOf env n = pure c := by unfold cellOf; rw [hc']
        show ((if ((NameKind.free == NameKind.free) = true) then (cellOf env n >>= fun c => pure (ForInStep.yield ((n, c) :: acc))) else pure (ForInStep.yield acc)) >>= _) = _
        rw [if_pos (by decide), e0]
        exact e
      · rw [List.lookup_cons]
        cases q : y == n with
        | true => rfl
        | false => exact hy
      · rcases List.mem_cons.mp hx with rfl | hx
        · exact h2 n (by simp [List.lookup_cons])
        · exact h3 x hx hf
    · obtain ⟨cl, e, h1, h2, h3⟩ := closure_run r acc (fun x hx => hn x (List.mem_cons_of_mem _ hx)) ha
      refine ⟨cl, ?_, h1, h2, fun x hx hf => ?_⟩
      · show ((if ((k == NameKind.free) = true) then (cellOf env n >>= fun c => pure (ForInStep.yield ((n, c) :: acc))) else pure (ForInStep.yield acc)) >>= _) = _
        rw [if_neg (by simpa using hk)]
        exact e
      · rcases List.mem_cons.mp hx with rfl | hx
        · exact absurd hf hk
        · exact h3 x hx hf
theorem closure_for {env : Env} {scope : Scope} (h : ∀ x ∈ scope.names, x.2 = .free → ∃ c, env.cells.lookup x.1 = some c) :
    ∃ cl, closureFor scope env = pure cl ∧ (∀ y c, cl.lookup y = some c → env.cells.lookup y = some c) ∧ ∀ x ∈ scope.names, x.2 = .free → ∃ c, cl.lookup x.1 = some c := by
  obtain ⟨cl, e, h1, _, h3⟩ := closure_run scope.names [] h (fun y c q => by simp at q)
  refine ⟨cl, ?_, h1, fun x hx hf => Option.isSome_iff_exists.mp (h3 x hx hf)⟩
  simp only [closureFor]
  show (forIn scope.names [] _ >>= fun r => pure r) = _
  rw [e]
  rfl
theorem lookup_relabel_free {env : Env} {x : Str} : ∀ {names : List (Str × NameKind)}, names.lookup x = some .free →
    (names.map fun (n, k) => if (k == NameKind.free && env.scope.kind == .function && env.kindOf n == some .cell) then (n, NameKind.cell) else (n, k)).lookup x = some .cell ∨
    (names.map fun (n, k) => if (k == NameKind.free && env.scope.kind == .function && env.kindOf n == some .cell) then (n, NameKind.cell) else (n, k)).lookup x = some .free
  | [], h => by simp at h
  | (n, k) :: r, h => by
    have ih := @lookup_relabel_free env x r
    show List.lookup x ((if (k == NameKind.free && env.scope.kind == .function && env.kindOf n == some .cell) = true then (n, NameKind.cell) else (n, k)) :: _) = _ ∨ List.lookup x ((if (k == NameKind.free && env.scope.kind == .function && env.kindOf n == some .cell) = true then (n, NameKind.cell) else (n, k)) :: _) = _
    cases hx : x == n with
    | true =>
      simp only [List.lookup_cons, hx] at h
      cases h
      by_cases hc : (NameKind.free == NameKind.free && env.scope.kind == .function && env.kindOf n == some .cell) = true
      · rw [if_pos hc]; left; simp only [List.lookup_cons, hx]
      · rw [if_neg hc]; right; simp only [List.lookup_cons, hx]
    | false =>
      simp only [List.lookup_cons, hx] at h
      by_cases hc : (k == NameKind.free && env.scope.kind == .function && env.kindOf n == some .cell) = true
      · rw [if_pos hc]; simp only [List.lookup_cons, hx]; exact ih h
      · rw [if_neg hc]; simp only [List.lookup_cons, hx]; exact ih h
theorem relabel_back {env : Env} {x : Str} {q : NameKind} : ∀ {names : List (Str × NameKind)}, (∀ y ∈ names, y.2 ≠ .cell) → q = .cell ∨ q = .free →
    (names.map fun (n, k) => if (k == NameKind.free && env.scope.kind == .function && env.kindOf n == some .cell) then (n, NameKind.cell) else (n, k)).lookup x = some q → (x, NameKind.free) ∈ names
  | [], _, _, h => by simp at h
  | (n, k) :: r, hn, hq, h => by
    have h : List.lookup x ((if (k == NameKind.free && env.scope.kind == .function && env.kindOf n == some .cell) = true then (n, NameKind.cell) else (n, k)) :: (r.map fun (n, k) => if (k == NameKind.free && env.scope.kind == .function && env.kindOf n == some .cell) then (n, NameKind.cell) else (n, k))) = some q := h
    by_cases hc : (k == NameKind.free && env.scope.kind == .function && env.kindOf n == some .cell) = true
    · rw [if_pos hc] at h
      cases hx : x == n with
      | true =>
        have hk : k = .free := by
          cases k <;> first | rfl | (simp at hc)
        rw [beq_iff_eq.mp hx, hk]
        exact List.mem_cons_self
      | false =>
        simp only [List.lookup_cons, hx] at h
        exact List.mem_cons_of_mem _ (relabel_back (fun y hy => hn y (List.mem_cons_of_mem _ hy)) hq h)
    · rw [if_neg hc] at h
      cases hx : x == n with
      | true =>
        simp only [List.lookup_cons, hx] at h
        have hk : k = q := Option.some.inj h
        have hk2 : k = .free := by
          rcases hq with rfl | rfl
          · exact absurd hk (hn (n, k) List.mem_cons_self)
          · exact hk
        rw [beq_iff_eq.mp hx, hk2]
        exact List.mem_cons_self
      | false =>
        simp only [List.lookup_cons, hx] at h
        exact List.mem_cons_of_mem _ (relabel_back (fun y hy => hn y (List.mem_cons_of_mem _ hy)) hq h)
def cxBlk (X : Cx) (scope : Scope) (cl : List (Str × Addr)) (C : Addr) (N : List Str) (s₀ : Shared) (H₀ : Hp) (fp : List Addr) : Cx :=
  { X with N := N, s₀ := s₀, H₀ := H₀, env := compEnvC scope cl C X.env, outer := X.stack, stack := X.stack, ex := fp, fn := fun _ => false, pn := [], xe := fun _ _ => False }
structure BlkScope (env : Env) (scope : Scope) (x : Str) : Prop where
  kind : scope.kind = .function
  cells : ∀ y ∈ scope.names, y.2 ≠ .cell
  names : ∀ y ∈ scope.names, y.2 = .local → scope.names.lookup y.1 = some .local
  lx : scope.names.lookup x = some .local
  free : ∀ y ∈ scope.names, y.2 = .free → env.kindOf y.1 = some .cell ∨ env.kindOf y.1 = some .free
def bN (N : List Str) (x : Str) (ix : List Nat) : List Str := x :: ix.map fun i => N.getD i Str.empty
def bS (σ : St) (o : Option V) (ix : List Nat) : St := o :: ix.map fun i => (σ[i]?).getD none
def PIfs (X : Cx) (ifs : List Expr) (tt : TT) : Prop :=
  ∀ (pins : List (Addr × Obj)) (s : Shared) (σ : St) (H : Hp) (Q : Bool → Hp → Prop), Inv X pins σ H s → tt σ H Q →
    wpAny (model X.prog X.w) X.A (forIn ifs true fun c r => if r = true then do let ok ← isTrue c X.env (eval c X.env); pure (ForInStep.yield ok) else pure (ForInStep.yield r)) (TP X pins σ Q) X.xe s
def tAll : TT := fun _ H Q => Q true H
theorem pifs_nil {X : Cx} : PIfs X [] tAll := by
  intro pins s σ H Q I h
  rw [List.forIn_nil]
  exact wpAny_pure ⟨H, I, h⟩
theorem pifs_one {X : Cx} {c : Expr} {tt : TT} (h : PT X c tt) : PIfs X [c] tt := by
  intro pins s σ H Q I hw
  rw [List.forIn_cons]
  refine wpAny_bind ?_
  rw [if_pos rfl]
  refine wpAny_bind (thn (h pins s σ H _ I hw) fun ok s1 q => wpAny_pure ?_)
  show wpAny _ _ (forIn [] ok _) _ _ s1
  rw [List.forIn_nil]
  exact wpAny_pure q
section
variable {X : Cx}
theorem blk_ok {pins : List (Addr × Obj)} {σ : St} {H : Hp} {s : Shared} {scope : Scope} {cl : List (Str × Addr)} {C : Addr} {N : List Str} {fp : List Addr} {x : Str} (I : Inv X pins σ H s) (B : BlkScope X.env scope x)
    (h1 : ∀ y c, cl.lookup y = some c → X.env.cells.lookup y = some c) (h3 : ∀ y ∈ scope.names, y.2 = .free → ∃ c, cl.lookup y.1 = some c) (hC : s.heap.objs.size ≤ C) (hf : ∀ b ∈ fp, FpOk X pins H b) (hl : ∀ b ∈ fp, b < s.heap.objs.size) :
    (cxBlk X scope cl C N s H fp).Ok where
  mod := I.ok.mod
  kind := by show (relabel scope X.env).kind = _; exact B.kind
  glob := I.ok.glob
  blt := I.ok.blt
  above := hC
  inj := fun y z c q r => I.ok.inj y z c (h1 y c q) (h1 z c r)
  has := fun y hy => by
    have hy : (relabel scope X.env).names.lookup y = some .cell ∨ (relabel scope X.env).names.lookup y = some .free := hy
    have m : (y, NameKind.free) ∈ scope.names := by
      rcases hy with q | q
      · exact relabel_back B.cells (.inl rfl) q
      · exact relabel_back B.cells (.inr rfl) q
    exact h3 _ m rfl
  cab := fun y c q => by cases (show false = true from q)
  hd := I.ok.hd
  frames := I.ok.frames
  stk := .inl rfl
  exf := fun b hb => ⟨Nat.ne_of_lt (Nat.lt_of_lt_of_le (hl b hb) hC), fun y c q => (hf b hb).2.2.2.2.1 y c (h1 y c q)⟩
  bs := I.bs
  bsz := Nat.le_trans I.ok.bsz I.sz
  noex := fun b o e hb => by
    rcases (hf b hb).2.2.2.1 with z | z
    · exact I.ok.noex b o e z
    · exact absurd (Nat.lt_of_lt_of_le (Heap.lt_size e) (Nat.le_trans I.ok.bsz z)) (Nat.lt_irrefl _)
  exfs := fun b hb z => by
    have z' := I.stkSub b z
    rcases List.mem_cons.mp z' with q | q
    · exact (hf b hb).2.1 q
    · exact (hf b hb).2.2.1 q
  funs := I.stack
  frf := I.stkFree
theorem HOk.add {P : Program} {w : World} {H : Hp} {h : Heap} {a : Addr} {o : HO} (x : HOk P w H h) (hn : H a = none) (new : ObjOk P w (upd H a o) h a o) : HOk P w (upd H a o) h := fun b u e => by
  by_cases hb : b = a
  · subst hb; rw [upd_same] at e; cases e; exact new
  · rw [upd_ne hb] at e
    exact (x b u e).stay (fun c v _ q => q) (fun c q => by rw [upd_ne (ne_of_none q hn)]; exact q) fun c xs q => by rw [upd_ne (ne_of_none q hn)]; exact q
theorem Un.add {fs ex : List Addr} {H H' : Hp} {h h' : Heap} {a : Addr} {o : HO} (u : Un fs ex H H' h h') (hn : h.get? a = none) (hH : H a = none) : Un fs ex H (upd H' a o) h h' where
  keep := u.keep
  slot := u.slot
  free := fun b ob e n hx => by
    have : b ≠ a := fun z => by rw [z, hn] at e; cases e
    rw [upd_ne this]; exact u.free b ob e n hx
  there := u.there
  tups := fun b xs e => by rw [upd_ne (ne_of_none e hH)]; exact u.tups b xs e
  frzs := fun b ob w e => by rw [upd_ne (ne_of_none e hH)]; exact u.frzs b ob w e
  tbls := fun b ps e => by rw [upd_ne (ne_of_none e hH)]; exact u.tbls b ps e
end
end L2
set_option Elab.async false
set_option linter.all false
set_option maxRecDepth 100000
set_option maxHeartbeats 4000000
namespace L2
open PySem PySem.Spec PyProof.Rows
section
variable {X : Cx}
theorem comp_blk {elt iter : Expr} {x : Str} {px pos : Pos} {scope : Scope} {te : TE} {tt : TT} {ifs : List Expr} {ix : List Nat} {pins : List (Addr × Obj)} {s : Shared} {σ : St} {H : Hp} {cl : List (Str × Addr)}
    {J : It} {fp : List Addr} {it : Addr} {tn : Nat → Heap → Prop} {E : Value → Shared → Prop} {RR : Value → Addr → Result → Shared → Prop} {G : List V → Hp → Prop}
    (I : Inv X pins σ H s) (hc : X.calm = true) (B : BlkScope X.env scope x) (h1 : ∀ y c, cl.lookup y = some c → X.env.cells.lookup y = some c) (h3 : ∀ y ∈ scope.names, y.2 = .free → ∃ c, cl.lookup y.1 = some c)
    (hix : ∀ i ∈ ix, ∃ y, X.N[i]? = some y ∧ scope.names.lookup y = some .free) (hN : (bN X.N x ix).Nodup)
    (T : Turn X.prog X.w X.K (.Name x px) J fp it tn) (st : tn 0 s.heap) (hf : ∀ b ∈ fp, FpOk X pins H b)
    (he : ∀ cl C s₀ H₀ fp, PE (cxBlk X scope cl C (bN X.N x ix) s₀ H₀ fp) elt te)
    (hi : ∀ cl C s₀ H₀ fp, PIfs (cxBlk X scope cl C (bN X.N x ix) s₀ H₀ fp) ifs tt)
    (W : Nat → Nat → List V → Hp → Prop) (m₀ : Nat) (w0 : W 0 m₀ [] H)
    (turn : ∀ i m ys H, W i m ys H → (J.stop i H ∧ ys.length ≤ sizeLine ∧ G ys H) ∨ (J.go i H ∧ ys.length < sizeLine ∧ ∀ v H', J.yld i H v H' →
        tt (bS σ (some v) ix) H' fun b H1 => if b = true then te (bS σ (some v) ix) H1 fun y H2 => ∃ m', m' < m ∧ W (i + 1) m' (ys ++ [y]) H2 else ∃ m', m' < m ∧ W (i + 1) m' ys H1))
    (hRR : ∀ D C s' ys H', Inv X pins σ (upd H' D (.lst ys)) s' → H' D = none → H' C = none → (∃ m, s'.heap.Ns C m) → s.heap.objs.size ≤ C → D ≠ C → G ys H' → RR (.ref D) C (.ok .next) s') :
    wpAny (model X.prog X.w) X.A (newList []) (fun acc s₃ => wpAny (model X.prog X.w) X.A (newFunctionEnv scope X.env.globals cl [] X.env.qual none .none (some X.env)) (fun cenv s₄ =>
      codeAny (model X.prog X.w) X.A (.compStart (.ListComp elt [⟨.Name x px, iter, ifs, 0⟩] scope pos) 0 (.ref it) acc { cenv with scope := relabel scope X.env }) (RR acc cenv.locals) s₄) E s₃) E s := by
  have hl : ∀ b ∈ fp, b < s.heap.objs.size := fun b hb => by obtain ⟨o, e, _⟩ := T.obj 0 _ st b hb; exact Heap.lt_size e
  refine wpAny_newObj_type (wpAny_newFunctionEnv B.cells (by intro y hy; simp at hy) (fun h₁ hns₁ hsb₁ => ?_) B.kind)
  dsimp only at hns₁ hsb₁ ⊢
  generalize hH2 : s.heap.push { cls := .type "list", dict := none, data := .seq ([] : List Value).toArray } = H2 at hns₁ hsb₁ ⊢
  have hC : H2.objs.size = s.heap.objs.size + 1 := by rw [← hH2, Heap.size_push]
  generalize hD : s.heap.objs.size = D at hC hl hRR ⊢
  generalize hCC : H2.objs.size = C at hC hns₁ hsb₁ ⊢
  have hDC : D ≠ C := by omega
  have old : ∀ b o, s.heap.get? b = some o → h₁.get? b = some o := fun b o e => hsb₁.extBut b o (Nat.ne_of_lt (by have z := Heap.lt_size e; rw [hD] at z; exact Nat.lt_of_lt_of_le z (by rw [hC]; exact Nat.le_succ _))) (Heap.get?_push_of_some _ (hH2 ▸ Heap.get?_push_of_some _ e))
  have hacc : h₁.get? D = some { cls := .type "list", data := .seq ([] : List Value).toArray 0 } := hsb₁.extBut _ _ hDC (Heap.get?_push_of_some _ (hH2 ▸ (by rw [← hD]; exact Heap.get?_push_size _ rfl)))
  have hfr : ∀ a, D ≤ a → s.heap.get? a = none := fun a ha => by
    cases e : s.heap.get? a with
    | none => rfl
    | some o => exact absurd (Heap.lt_size e) (by rw [hD]; exact Nat.not_lt.mpr ha)
  have hHn : ∀ a, D ≤ a → H a = none := fun a ha => I.hok.fresh (by omega)
  have ok : (cxBlk X scope cl C (bN X.N x ix) s H fp).Ok := blk_ok I B h1 h3 (by omega) hf (by rw [hD]; exact hl)
  generalize hK : cxBlk X scope cl C (bN X.N x ix) s H fp = K at ok
  have kp : K.prog = X.prog := by rw [← hK]; rfl
  have kw : K.w = X.w := by rw [← hK]; rfl
  have kK : K.K = X.K := by rw [← hK]; rfl
  have kA : K.A = X.A := by rw [← hK]; rfl
  have kc : K.calm = true := by rw [← hK]; exact hc
  have kN : K.N = bN X.N x ix := by rw [← hK]; rfl
  have kenv : K.env = compEnvC scope cl C X.env := by rw [← hK]; rfl
  have kloc : K.env.locals = C := by rw [← hK]; rfl
  have kfs : K.fs = frs X.stack := by rw [← hK]; rfl
  have kex : K.ex = fp := by rw [← hK]; rfl
  have kpn : K.pn = [] := by rw [← hK]; rfl
  have ks : K.s₀ = s := by rw [← hK]; rfl
  have kH : K.H₀ = H := by rw [← hK]; rfl
  have kx : K.xe = fun _ _ => False := by rw [← hK]; rfl
  have kcl : K.env.cells = cl := by rw [← hK]; rfl
  have cellLt : ∀ y c, cl.lookup y = some c → c < D := fun y c q => by obtain ⟨v, z⟩ := I.cell y c (h1 y c q); rw [← hD]; exact z.lt
  have stkLt : ∀ b ∈ frs X.stack, b < D := fun b hb => by
    rcases List.mem_cons.mp (I.stkSub b hb) with q | q
    · rw [q, ← hD]; exact I.lt
    · rcases Nat.lt_or_ge b D with z | z
      · exact z
      · exact absurd q (I.nofs (by omega))
  -- the state at the block's begin
  have I0 : ∀ tk, Inv K [(D, { cls := .type "list", data := .seq ([] : List Value).toArray 0 })] (bS σ none ix) H { s with heap := h₁, toks := tk } := fun tk => by
    refine ⟨ok, by rw [ks], I.bare, by rw [ks, kH]; exact Un.kept old, ?_, ?_, ?_, ?_, ?_, by rw [kp, kw]; exact I.hok.kept old, ?_⟩
    · refine ⟨_, by rw [kloc]; exact hns₁, fun i y v e1 e2 e3 => ?_⟩
      rw [kN] at e1
      cases i with
      | zero =>
        have : (none : Option V) = some v := by simpa [bS] using e2
        cases this
      | succ i =>
        have e1' : (ix.map fun i => X.N.getD i Str.empty)[i]? = some y := by simpa [bN] using e1
        have e2' : (ix.map fun i => (σ[i]?).getD none)[i]? = some (some v) := by simpa [bS] using e2
        rw [List.getElem?_map] at e1' e2'
        cases q : ix[i]? with
        | none => rw [q] at e1'; cases e1'
        | some j =>
          rw [q] at e1' e2'
          obtain ⟨y', a1, a2⟩ := hix j (List.mem_of_getElem? q)
          have a3 : X.N.getD j Str.empty = y' := by simp [List.getD, a1]
          have ey : y' = y := by rw [← a3]; exact Option.some.inj e1'
          subst ey
          have es : σ[j]? = some (some v) := by
            have z : (σ[j]?).getD none = some v := Option.some.inj e2'
            cases w : σ[j]? with
            | none => rw [w] at z; cases z
            | some o => rw [w] at z; have z' : o = some v := z; rw [z']
          obtain ⟨m, hn, hlk⟩ := I.loc
          have hk := B.free (y', .free) (PySem.mem_of_lookup a2) rfl
          have hk : X.env.kindOf y' = some .cell ∨ X.env.kindOf y' = some .free := hk
          have vis : Vis X.env.scope y' := hk.elim (fun z => .inr (.inl z)) fun z => .inr (.inr z)
          obtain ⟨u, ru, lk⟩ := hlk j y' v a1 es vis
          refine ⟨u, ru, ?_⟩
          rcases lk with ⟨k, _⟩ | ⟨_, c, ec, ce⟩
          · rcases hk with z | z <;> (rw [k] at z; cases z)
          · obtain ⟨c', ec'⟩ := h3 (y', .free) (PySem.mem_of_lookup a2) rfl
            have ec' : cl.lookup y' = some c' := ec'
            have : c' = c := Option.some.inj ((h1 y' c' ec').symm.trans ec)
            subst this
            refine .inr ⟨?_, c', by rw [kcl]; exact ec', ?_⟩
            · show K.env.scope.names.lookup y' = _ ∨ K.env.scope.names.lookup y' = _
              rw [kenv]
              exact lookup_relabel_free a2
            · obtain ⟨oc, hoc, r⟩ := ce
              exact ⟨oc, old _ _ hoc, r⟩
    · intro y c q
      rw [kcl] at q
      obtain ⟨v, oc, hoc, r⟩ := I.cell y c (h1 y c q)
      exact ⟨v, oc, old _ _ hoc, r⟩
    · rw [kloc]; exact hHn _ (by omega)
    · intro y c q
      rw [kcl] at q
      exact I.freeC y c (h1 y c q)
    · intro p hp
      rw [kpn] at hp
      have e : p = (D, { cls := .type "list", data := .seq ([] : List Value).toArray 0 }) := by simpa using hp
      subst e
      refine ⟨hacc, hHn _ (Nat.le_refl _), by rw [kloc]; exact hDC, ?_, fun v z => ?_⟩
      · rw [kfs]; intro z; exact absurd (stkLt D z) (Nat.lt_irrefl _)
      · have z' : Data.seq _ _ = Data.cell v := z
        cases z'
    · rw [kN]; simp [bS, bN]
  have stat : ∀ {H' : Hp} {ob : Obj}, (∀ b ∈ fp, H' b = none) → ∀ b ∈ fp, FpOk K [(D, ob)] H' b := fun {H' ob} hn b hb => by
    refine ⟨hn b hb, ?_, ?_, .inl (by rw [kex]; exact hb), ?_, ?_⟩
    · rw [kloc]; exact Nat.ne_of_lt (Nat.lt_of_lt_of_le (hl b hb) (by rw [hC]; exact Nat.le_succ _))
    · rw [kfs]; intro z
      rcases List.mem_cons.mp (I.stkSub b z) with q | q
      · exact (hf b hb).2.1 q
      · exact (hf b hb).2.2.1 q
    · intro y c q; rw [kcl] at q; exact (hf b hb).2.2.2.2.1 y c (h1 y c q)
    · intro p hp; rw [kpn] at hp
      have e : p = (D, ob) := by simpa using hp
      subst e
      exact Nat.ne_of_gt (hl b hb)
  have st₁ : tn 0 h₁ := T.keep _ _ _ st fun b hb o e => old b o e
  have loop : ∀ tk, codeAny (model X.prog X.w) X.A (.compLoop (.ListComp elt [⟨.Name x px, iter, ifs, 0⟩] scope pos) 0 (.ref it) (.ref D) (compEnvC scope cl C X.env)) (RR (.ref D) C) { s with heap := h₁, toks := tk } := by
    intro tk
    refine codeAny_compLoop_tests (fun n s' => ∃ i o H' ys its c, Inv K [(D, { cls := .type "list", data := .seq (its : List Value).toArray c })] (bS σ o ix) H' s' ∧ Vals ys its ∧ tn i s'.heap ∧ (∀ b ∈ fp, H' b = none) ∧ W i n ys H') ?_ m₀
      ⟨0, none, H, [], [], 0, I0 tk, .nil, st₁, fun b hb => (hf b hb).1, w0⟩
    rintro n s1 ⟨i, o, H1, ys, its, c, I1, rv, t1, f1, w1⟩
    rcases turn i n ys H1 w1 with ⟨stop, hz, g⟩ | ⟨go, hz, step⟩
    · have dn := T.done K kp kw kK kc i _ s1 _ H1 (notedBy (model X.prog X.w) X.A (compEnvC scope cl C X.env) fun e s' => RR (.ref D) C (.error e) s') I1 (stat f1) t1 stop
      rw [kA] at dn
      refine thn dn fun r s2 ⟨hr, I2⟩ => ?_
      subst hr
      obtain ⟨p1, p2, p3, p4, p5⟩ := I2.pin (D, { cls := .type "list", data := .seq its.toArray c }) (List.mem_append_right _ (List.mem_singleton.mpr rfl))
      have u2 := I2.base
      rw [kfs, kex, kH, ks] at u2
      refine hRR D C s2 ys H1 ?_ p2 (by rw [← kloc]; exact I2.free) (by obtain ⟨m, hm, _⟩ := I2.loc; rw [kloc] at hm; exact ⟨m, hm⟩) (by omega) hDC g
      have hk2 : HOk X.prog X.w H1 s2.heap := by have := I2.hok; rw [kp, kw] at this; exact this
      refine I.call' (ch := fp) (by have := I2.os; rw [ks] at this; exact this) (u2.add (hfr D (Nat.le_refl _)) (hHn D (Nat.le_refl _))) (hk2.add p2 ⟨hz, its, c, rv, p1⟩) I2.bare fun b hb => ?_
      exact ⟨(hf b hb).2.2.2.1, (hf b hb).2.1, (hf b hb).2.2.2.2.1, (hf b hb).2.2.2.2.2⟩
    · have im := T.item K kp kw kK kc i _ s1 _ H1 (notedBy (model X.prog X.w) X.A (compEnvC scope cl C X.env) fun e s' => RR (.ref D) C (.error e) s') I1 (stat f1) t1 go
      rw [kA] at im
      refine thn im fun r s2 ⟨u, hr, h2⟩ => ?_
      subst hr
      show wpAny _ _ (assign (.Name x px) (compEnvC scope cl C X.env) u) _ _ s2
      have h2' : wpAny (model X.prog X.w) X.A (pure () : Sem Unit) _ _ s2 := h2
      suffices q : wpAny (model X.prog X.w) X.A ((pure () : Sem Unit) >>= fun _ => assign (.Name x px) (compEnvC scope cl C X.env) u) _ _ s2 from q
      refine wpAny_bind (thn h2' fun _ s3 ⟨v, H3, I3, r3, y3, t3, f3⟩ => ?_)
      have q3 := step v H3 y3
      have I3' := I3.pinned (stat f3) (T.obj _ _ t3)
      rw [← kenv]
      refine wpAny_assign_Name (store_ok I3' (i := 0) (x := x) (by rw [kN]; exact hN) (by rw [kN]; rfl) (.inl (by rw [kenv]; exact lookup_relabel_local B.lx)) r3 (fun s4 I4 => ?_) (.inr (by rw [kenv]; exact lookup_relabel_local B.lx)))
      have I4 : Inv K ([(D, { cls := .type "list", data := .seq its.toArray c })] ++ pinsAt fp s3.heap) (bS σ (some v) ix) H3 s4 := I4
      have hi' := hi cl C s H fp
      rw [hK] at hi'
      have hiv := hi' _ s4 _ H3 _ I4 q3
      rw [kx, kp, kw, kA] at hiv
      refine wpAny_mono hiv (fun ok s5 ⟨H5, I5, q5⟩ => ?_) fun _ _ z => z.elim
      have back : ∀ {H7 : Hp} {s7 : Shared} {o7 : Option V}, Inv K ([(D, { cls := .type "list", data := .seq its.toArray c })] ++ pinsAt fp s3.heap) (bS σ o7 ix) H7 s7 → tn (i + 1) s7.heap ∧ ∀ b ∈ fp, H7 b = none := fun {H7 s7 o7} I7 => by
        refine ⟨T.keep _ _ _ t3 fun b hb o e => (I7.pin (b, o) (List.mem_append_right _ (List.mem_append_right _ (mem_pinsAt hb e)))).1, fun b hb => ?_⟩
        obtain ⟨ob, e, d⟩ := T.obj _ _ t3 b hb
        exact (I7.pin (b, ob) (List.mem_append_right _ (List.mem_append_right _ (mem_pinsAt hb e)))).2.1
      cases ok with
      | false =>
        rw [if_neg Bool.false_ne_true]
        have q5 : ∃ m', m' < n ∧ W (i + 1) m' ys H5 := q5
        obtain ⟨m', hm, w5⟩ := q5
        obtain ⟨b1, b2⟩ := back I5
        exact ⟨m', hm, i + 1, some v, H5, ys, its, c, I5.unpinned, rv, b1, b2, w5⟩
      | true =>
        rw [if_pos rfl]
        have q5 : te (bS σ (some v) ix) H5 fun y H2 => ∃ m', m' < n ∧ W (i + 1) m' (ys ++ [y]) H2 := q5
        have he' := he cl C s H fp
        rw [hK] at he'
        have hev := he' _ s5 _ H5 _ I5 q5
        rw [kx, kp, kw, kA] at hev
        refine wpAny_mono hev (fun y s6 ⟨yv, H6, I6, r6, m', hm, w6⟩ => ?_) fun _ _ z => z.elim
        obtain ⟨b1, b2⟩ := back I6
        have I6' := I6.unpinned
        obtain ⟨p1, p2, p3, p4, p5⟩ := I6'.pin (D, { cls := .type "list", data := .seq its.toArray c }) (List.mem_append_right _ (List.mem_singleton.mpr rfl))
        have hlen := rv.length
        refine call_meets F.slot_list_append ⟨_, p1, rfl⟩ F.entry_list_append (F.args_list_append_2 _ _) (PySem.list_append D its.toArray c y (by rw [List.size_toArray]; omega)) ⟨p1, ?_⟩
        have ea : its.toArray.push y = (its ++ [y]).toArray := by simp
        obtain ⟨c', q⟩ : ∃ c', (s6.heap.update D (Obj.mapSeq (·.push y))).get? D = some { cls := .type "list", data := .seq (its ++ [y]).toArray c' } := ⟨_, by rw [← ea]; exact PySem.IsL.update p1 (·.push y)⟩
        refine ⟨m', hm, i + 1, some v, H6, ys ++ [yv], its ++ [y], c', ?_, rv.append (.cons r6 .nil), T.keep _ _ _ b1 fun b hb o e => ?_, b2, w6⟩
        · have Id : Inv K [] (bS σ (some v) ix) H6 s6 := I6'.pins_of fun p hp => by simp at hp
          have It : Inv K [] (bS σ (some v) ix) H6 { s6 with heap := s6.heap.update D (Obj.mapSeq (·.push y)) } := Id.turned (t' := s6.toks) (it := D) (fun b o hb e => (Heap.get?_update_other _ _ (Ne.symm hb)).trans e) p2 p3
            (.inr (by rw [ks]; omega)) (fun y' c' e => by rw [kcl] at e; exact Nat.ne_of_lt (cellLt y' c' e)) (fun p hp => by rw [kpn] at hp; simp at hp)
          refine It.pins_of fun p hp => ?_
          obtain rfl : p = (D, { cls := .type "list", data := .seq (its ++ [y]).toArray c' }) := by simpa using hp
          refine ⟨q, p2, p3, p4, fun v z => ?_⟩
          have z' : Data.seq _ _ = Data.cell v := z
          cases z'
        · exact (Heap.get?_update_other _ _ (Nat.ne_of_gt (hl b hb))).trans e
  have selfs : wpAny (model X.prog X.w) X.A (pyIter (.ref it)) (fun it' s' => codeAny (model X.prog X.w) X.A (.compLoop (.ListComp elt [⟨.Name x px, iter, ifs, 0⟩] scope pos) 0 it' (.ref D) (compEnvC scope cl C X.env)) (RR (.ref D) C) s')
      (notedBy (model X.prog X.w) X.A (compEnvC scope cl C X.env) fun e s' => RR (.ref D) C (.error e) s') { s with heap := h₁, toks := s.toks + ([] : List (Str × Value)).length } := T.self X.A 0 _ _ _ st₁ (loop _)
  exact codeAny_compStart_list (loop _) selfs
def tComp (wi : TI) (tt : TT) (te : TE) (ix : List Nat) : TE := fun σ H Q => wi σ H fun J H1 => ∃ (W : Nat → Nat → List V → Hp → Prop) (m₀ : Nat), W 0 m₀ [] H1 ∧
  ∀ i m ys H, W i m ys H → (J.stop i H ∧ ys.length ≤ sizeLine ∧ ∀ l, H l = none → Q (.ref l) (upd H l (.lst ys))) ∨ (J.go i H ∧ ys.length < sizeLine ∧ ∀ v H', J.yld i H v H' →
    tt (bS σ (some v) ix) H' fun b H1 => if b = true then te (bS σ (some v) ix) H1 fun y H2 => ∃ m', m' < m ∧ W (i + 1) m' (ys ++ [y]) H2 else ∃ m', m' < m ∧ W (i + 1) m' ys H1)
theorem blk_free {scope : Scope} {x : Str} {pins : List (Addr × Obj)} {σ : St} {H : Hp} {s : Shared} (I : Inv X pins σ H s) (B : BlkScope X.env scope x) : ∀ y ∈ scope.names, y.2 = .free → ∃ c, X.env.cells.lookup y.1 = some c :=
  fun y hy hf => I.ok.has y.1 (B.free y hy hf)
theorem Inv.blkGone {pins : List (Addr × Obj)} {σ : St} {H : Hp} {s s₀ : Shared} {H₀ : Hp} {C : Addr} {h' : Heap} {σ₀ : St} (I₀ : Inv X pins σ₀ H₀ s₀) (I : Inv X pins σ H s) (hC : s₀.heap.objs.size ≤ C) (hn : H C = none) (hs : Heap.SameBut C s.heap h') : Inv X pins σ H { s with heap := h' } :=
  I.turned (t' := s.toks) (it := C) (fun b o hb e => (hs.2 b hb).trans e) hn (Nat.ne_of_gt (Nat.lt_of_lt_of_le I₀.lt hC)) (.inr (Nat.le_trans I₀.sz hC))
    (fun x c e => by obtain ⟨v, z⟩ := I₀.cell x c e; exact Nat.ne_of_lt (Nat.lt_of_lt_of_le z.lt hC)) (fun p hp => Nat.ne_of_lt (Nat.lt_of_lt_of_le (Heap.lt_size (I₀.pin p hp).1) hC))
theorem pe_comp {elt iter : Expr} {x : Str} {px pos : Pos} {scope : Scope} {te : TE} {tt : TT} {wi : TI} {ifs : List Expr} (ix : List Nat) (hc : X.calm = true) (B : BlkScope X.env scope x)
    (hix : ∀ i ∈ ix, ∃ y, X.N[i]? = some y ∧ scope.names.lookup y = some .free) (hN : (bN X.N x ix).Nodup) (hi : PI X (.Name x px) iter wi)
    (ht : ∀ cl C s₀ H₀ fp, PIfs (cxBlk X scope cl C (bN X.N x ix) s₀ H₀ fp) ifs tt)
    (he : ∀ cl C s₀ H₀ fp, PE (cxBlk X scope cl C (bN X.N x ix) s₀ H₀ fp) elt te)
    (hs : ∀ x, foldedSetIterable iter X.env x = pure x := by intro _; rfl) :
    PE X (.ListComp elt [⟨.Name x px, iter, ifs, 0⟩] scope pos) (tComp wi tt te ix) := by
  intro pins s σ H Q I h
  obtain ⟨cl, hcl, h1, h3⟩ := closure_for (blk_free I B)
  rw [eval_ListComp]
  refine wpAny_comprehension_free (use := none) rfl hs hcl B.kind B.names (thn (hi pins s σ H _ I h) fun v s1 h1' => thn h1' fun itv s2 h2 => ?_)
  obtain ⟨it, fp, tn, J, H2, e, I2, T, st2, f2, W, m0, w0, turn⟩ := h2
  subst e
  refine comp_blk (G := fun ys H' => ∀ l, H' l = none → Q (.ref l) (upd H' l (.lst ys))) I2 hc B h1 h3 hix hN T st2 f2 he ht W m0 w0 turn fun D C s' ys H' I' hD hC hm hCs hDC g => ?_
  obtain ⟨m, hm⟩ := hm
  refine ⟨m, hm, fun h' hsb => ⟨.ref D, upd H' D (.lst ys), I2.blkGone I' hCs (by rw [upd_ne (Ne.symm hDC)]; exact hC) hsb, rfl, g D hD⟩⟩
end
end L2
set_option Elab.async false
set_option linter.all false
set_option maxRecDepth 100000
set_option maxHeartbeats 4000000
namespace L2
open PySem PySem.Spec PyProof.Rows
section
variable {X : Cx}
end
section
variable {prog : Program} {w : World} {A : Around} {E : Value → Shared → Prop} {s : Shared}
end
section
variable {X : Cx}
end
end L2
set_option Elab.async false
set_option linter.all false
set_option maxRecDepth 100000
set_option maxHeartbeats 4000000
namespace L2
open PySem PySem.Spec PyProof.Rows
section
variable {X : Cx}
end
section
variable {X : Cx}
end
end L2
set_option Elab.async false
set_option linter.all false
set_option maxRecDepth 100000
set_option maxHeartbeats 4000000
namespace L2
open PySem PySem.Spec PyProof.Rows
open PySem.W (Dat kqdP kqdPs kqdOk)
mutual
inductive DV (H : Hp) : V → Dat → Prop
  | non : DV H .non .none
  | int (i : Int) : DV H (.int i) (.int i)
  | str (x : Str) : DV H (.str x) (.str x)
  | tup {a : Addr} {xs : List V} {ds : List Dat} (e : H a = some (.tup xs)) (r : DVs H xs ds) : DV H (.ref a) (.tuple ds)
  | lst {a : Addr} {xs : List V} {ds : List Dat} (e : H a = some (.lst xs)) (r : DVs H xs ds) : DV H (.ref a) (.list ds)
inductive DVs (H : Hp) : List V → List Dat → Prop
  | nil : DVs H [] []
  | cons {x : V} {d : Dat} {xs : List V} {ds : List Dat} (h : DV H x d) (r : DVs H xs ds) : DVs H (x :: xs) (d :: ds)
end
mutual
theorem DV.reads {P : Program} {w : World} {H : Hp} {h : Heap} (ok : HOk P w H h) : ∀ {x : V} {d : Dat} {u : Value}, DV H x d → RelV x u → ∃ as, Reads h u (kqdP d) as
  | _, _, _, .non, r => by cases r; exact ⟨_, by rw [kqdP]; exact Reads.none⟩
  | _, _, _, .int i, r => by obtain ⟨t, rfl⟩ := r; exact ⟨_, by rw [kqdP]; exact Reads.int i t⟩
  | _, _, _, .str x, r => by obtain ⟨t, rfl⟩ := r; exact ⟨_, by rw [kqdP]; exact Reads.str x t⟩
  | _, _, _, .tup (a := a) e q, r => by
    cases r
    obtain ⟨_, its, rv, o, h1, h2, n, h3⟩ := ok a _ e
    obtain ⟨as, z⟩ := DVs.reads ok q rv
    rw [kqdP]
    exact ⟨as, reads_tuple_at h1 h2 h3 (by simpa using z)⟩
  | _, _, _, .lst (a := a) e q, r => by
    cases r
    obtain ⟨_, its, n, rv, h1⟩ := ok a _ e
    obtain ⟨as, z⟩ := DVs.reads ok q rv
    rw [kqdP]
    exact ⟨_, reads_list_at h1 rfl rfl (by simpa using z)⟩
theorem DVs.reads {P : Program} {w : World} {H : Hp} {h : Heap} (ok : HOk P w H h) : ∀ {xs : List V} {ds : List Dat} {us : List Value}, DVs H xs ds → Vals xs us → ∃ as, ReadsAll h us (kqdPs ds) as
  | _, _, _, .nil, r => by cases r; exact ⟨_, by rw [kqdPs]; exact ReadsAll.nil⟩
  | _, _, _, .cons p q, r => by
    cases r with
    | cons r1 r2 =>
      obtain ⟨as, z⟩ := DV.reads ok p r1
      obtain ⟨bs, y⟩ := DVs.reads ok q r2
      rw [kqdPs]
      exact ⟨_, ReadsAll.cons z y⟩
end
mutual
theorem DV.mono {H H' : Hp} (s : ∀ b o, H b = some o → H' b = some o) : ∀ {x : V} {d : Dat}, DV H x d → DV H' x d
  | _, _, .non => .non
  | _, _, .int i => .int i
  | _, _, .str x => .str x
  | _, _, .tup e q => .tup (s _ _ e) (DVs.mono s q)
  | _, _, .lst e q => .lst (s _ _ e) (DVs.mono s q)
theorem DVs.mono {H H' : Hp} (s : ∀ b o, H b = some o → H' b = some o) : ∀ {xs : List V} {ds : List Dat}, DVs H xs ds → DVs H' xs ds
  | _, _, .nil => .nil
  | _, _, .cons p q => .cons (DV.mono s p) (DVs.mono s q)
end
theorem DVs.ints {H : Hp} : ∀ ns : List Int, DVs H (ns.map V.int) (ns.map Dat.int)
  | [] => .nil
  | n :: r => .cons (.int n) (DVs.ints r)
theorem dat_shaped {n : Nat} {d : Dat} (h : kqdOk n d = true) (hn : n ≤ 9) : SeqAt.shaped (kqdP d) = true := by
  have l := PySem.W.kqd_lay n d h
  unfold SeqAt.shaped
  rw [l.1, Bool.true_and]
  exact decide_eq_true (Nat.le_trans l.2 (Nat.le_trans hn (by decide)))
open Classical in
theorem dat_eqv {n k : Nat} {d e : Dat} (h : kqdOk n d = true) (h' : kqdOk k e = true) : PyData.eqv (kqdP d) (kqdP e) = decide (d = e) := by
  have q := PySem.W.kqd_eqv n d e k h h'
  by_cases hq : d = e
  · rw [decide_eq_true hq]; exact q.mpr hq
  · rw [decide_eq_false hq]; exact Bool.eq_false_iff.mpr fun x => hq (q.mp x)
section
variable {X : Cx}
def rDat (neg : Bool) : R2 := fun x y H Q => ∃ d e n, DV H x d ∧ DV H y e ∧ kqdOk n d = true ∧ kqdOk n e = true ∧ n ≤ 9 ∧ ((d = e → Q (.bl (!neg)) H) ∧ (d ≠ e → Q (.bl neg) H))
theorem op_eqD (hu : X.A.units + 64 < cLine) : OpR X (compareOp .Eq) (rDat false) := by
  classical
  intro pins s σ H x y v u Q I rx ry h
  obtain ⟨d, e, n, dx, dy, hd, he, hn, q1, q2⟩ := h
  obtain ⟨as, ra⟩ := dx.reads I.hok rx
  obtain ⟨bs, rb⟩ := dy.reads I.hok ry
  refine eq_dataH ra rb (dat_shaped hd hn) (dat_shaped he hn) hu ?_
  rw [dat_eqv hd he]
  by_cases hq : d = e
  · rw [decide_eq_true hq]; exact ⟨.bl true, H, I, rfl, q1 hq⟩
  · rw [decide_eq_false hq]; exact ⟨.bl false, H, I, rfl, q2 hq⟩
theorem op_neD (hu : X.A.units + 64 < cLine) : OpR X (compareOp .NotEq) (rDat true) := by
  classical
  intro pins s σ H x y v u Q I rx ry h
  obtain ⟨d, e, n, dx, dy, hd, he, hn, q1, q2⟩ := h
  obtain ⟨as, ra⟩ := dx.reads I.hok rx
  obtain ⟨bs, rb⟩ := dy.reads I.hok ry
  refine ne_dataH ra rb (dat_shaped hd hn) (dat_shaped he hn) hu ?_
  rw [dat_eqv hd he]
  by_cases hq : d = e
  · rw [decide_eq_true hq]; exact ⟨.bl false, H, I, rfl, q1 hq⟩
  · rw [decide_eq_false hq]; exact ⟨.bl true, H, I, rfl, q2 hq⟩
theorem call_isinst : CallR X (.builtin "isinstance") (fun xs H Q => ∃ x T t b, xs = [x, .ty T] ∧ TyOf X.K H x (.type t) ∧ PySem.W.kitOne X.K (.type t) (.type T) = some b ∧ Q (.bl b) H) := by
  intro pins s σ H xs us Q I r h
  obtain ⟨x, T, t, b, rfl, ty, e, q⟩ := h
  obtain ⟨u, c, rfl, ru, rc⟩ := vals2 r
  cases (show c = Value.type T from rc)
  exact isinst_ok I ru ty e fun tk => ⟨.bl b, H, I.tok _, rfl, q⟩
end
end L2
set_option Elab.async false
set_option linter.all false
set_option maxRecDepth 100000
set_option maxHeartbeats 4000000
namespace SortT
open PySem PySem.W PyProof.Rows
structure Ord (f : Nat → Nat → Bool) : Prop where
  asym : ∀ i j, f i j = true → f j i = false
  tr : ∀ i j k, f j i = false → f k j = false → f k i = false
section
variable {f : Nat → Nat → Bool} (O : Ord f)
def Le (f : Nat → Nat → Bool) (i j : Nat) : Prop := f j i = false
include O in
theorem le_refl (i : Nat) : Le f i i := by
  unfold Le
  cases h : f i i with
  | false => rfl
  | true => have := O.asym i i h; rw [h] at this; cases this
theorem Le.trans {i j k : Nat} (O : Ord f) (h : Le f i j) (h' : Le f j k) : Le f i k := O.tr i j k h h'
theorem Le.of {i j : Nat} (O : Ord f) (h : f i j = true) : Le f i j := O.asym i j h
abbrev at_ (p : Array Nat) (i : Nat) : Nat := p.getD i 0
end
end SortT
set_option Elab.async false
set_option linter.all false
set_option maxRecDepth 100000
set_option maxHeartbeats 4000000
namespace SortT
open PySem PySem.W PyProof.Rows
def AllT {α : Type} (P : Nat → Nat → Prop) (R : α → Prop) : KasT α → Prop
  | .ret a => R a
  | .ask i j k => P i j ∧ ∀ b, AllT P R (k b)
theorem AllT.bind {α β : Type} {P : Nat → Nat → Prop} {R : α → Prop} {S : β → Prop} {g : α → KasT β} : ∀ {t : KasT α}, AllT P R t → (∀ a, R a → AllT P S (g a)) → AllT P S (t.bind g)
  | .ret a, h, hg => hg a h
  | .ask i j k, h, hg => ⟨h.1, fun b => AllT.bind (h.2 b) hg⟩
section
variable {N : Nat}
def Bd (N : Nat) (p : Array Nat) : Prop := 0 < N ∧ ∀ x ∈ p.toList, x < N
theorem Bd.at {p : Array Nat} (h : Bd N p) (i : Nat) : p.getD i 0 < N := by
  rw [Array.getD_eq_getD_getElem?]
  cases e : p[i]? with
  | none => exact h.1
  | some x => exact h.2 x (by rw [← Array.getElem?_toList] at e; exact List.mem_of_getElem? e)
theorem Bd.perm {p q : Array Nat} (h : Bd N p) (hp : q.Perm p) : Bd N q := ⟨h.1, fun x hx => h.2 x ((Array.perm_iff_toList_perm.mp hp).mem_iff.mp hx)⟩
end
section
variable {prog : Program} {w : World} {A : Around} {E : Value → Shared → Prop} {s : Shared}
end
end SortT
namespace L2
open PySem PySem.Spec PyProof.Rows
theorem ObjOk.there {P : Program} {w : World} {H : Hp} {h : Heap} {a : Addr} {o : HO} (x : ObjOk P w H h a o) : ∃ ob, h.get? a = some ob := by
  cases o with
  | lst xs => obtain ⟨_, _, _, _, e⟩ := x; exact ⟨_, e⟩
  | tup xs => obtain ⟨_, _, _, o, e, _⟩ := x; exact ⟨_, e⟩
  | dK kvs => obtain ⟨_, _, _, _, o, _, _, e, _⟩ := x; exact ⟨_, e⟩
  | dT kvs => obtain ⟨_, _, _, _, o, _, _, e, _⟩ := x; exact ⟨_, e⟩
  | set S n => obtain ⟨o, _, _, _, e, _⟩ := x; exact ⟨_, e⟩
  | ins C dx fs => obtain ⟨_, _, _, e, _⟩ := x; exact ⟨_, e⟩
  | own y => exact x
  | xd fs => obtain ⟨_, ⟨_, _, _, e, _⟩, _⟩ := x; exact ⟨_, e⟩
  | rng lo hi => obtain ⟨_, _, _, e⟩ := x; exact ⟨_, e⟩
  | frz ob u => obtain ⟨e, _⟩ := x; exact ⟨_, e⟩
  | tbl ps => exact ⟨_, (show h.get? a = some _ from x)⟩
  | met f y => exact ⟨_, (show h.get? a = some _ from x)⟩
  | ext φ => obtain ⟨_, e, _⟩ := x; exact e
section
variable {X : Cx}
end
end L2
set_option Elab.async false
set_option linter.all false
set_option maxRecDepth 100000
set_option maxHeartbeats 4000000
namespace L2
open PySem PySem.Spec PyProof.Rows
theorem Same.put {H H' : Hp} {a : Addr} {o : HO} (s : Same H H') (h : H a = none) : Same H (upd H' a o) := fun b u e => by rw [upd_ne (ne_of_none e h)]; exact s b u e
theorem Same.new {H H' : Hp} {a : Addr} {o : HO} (s : Same H H') (h : H' a = none) : Same H (upd H' a o) := s.put (s.free h)
end L2
set_option Elab.async false
set_option linter.all false
set_option maxRecDepth 100000
set_option maxHeartbeats 4000000
namespace L2
open PySem PySem.Spec PyProof.Rows
theorem kV_back {P : Program} {w : World} {k : Key} {u : Value} (h : (mixKind P w).is k u = true) : RelV (kV k) u := by
  rw [mixKind_is] at h
  rcases keyIs_shape h with ⟨i, t, rfl, rfl⟩ | ⟨x, t, rfl, rfl⟩
  · exact ⟨t, rfl⟩
  · exact ⟨t, rfl⟩
section
variable {X : Cx}
end
end L2
set_option Elab.async false
set_option linter.all false
set_option maxRecDepth 100000
set_option maxHeartbeats 4000000
namespace HT
open PySem PySem.Spec PyProof.Rows L2
section
variable {prog : Program} {w : World} {A : Around} {E : Value → Shared → Prop} {s : Shared}
theorem cat_tup0 {t b : Addr} {ws : List Value} {Q : Value → Shared → Prop} (ht : IsTup s.heap t ([] : List Value).toArray) (hb : IsTup s.heap b ws.toArray) (h1 : Q (.ref b) s) : wpAny (model prog w) A (binaryOp .Add (.ref t) (.ref b)) Q E s := by
  obtain ⟨⟨cls, dd, data, sl⟩, ho, hc, n, hd⟩ := id ht
  obtain ⟨⟨cls2, dd2, data2, sl2⟩, ho2, hc2, n2, hd2⟩ := id hb
  simp only at hc hd hc2 hd2
  subst hc hd hc2 hd2
  exact concat_meets ⟨_, ho, rfl⟩ ⟨_, ho2, rfl⟩ noFill_tuple_add seq_tuple_add PySem.F.slot_tuple_add PySem.F.entry_tuple_add (PySem.F.args_tuple_add_2 _ _)
      (tuple_addW0 t b ([] : List Value).toArray ws.toArray n n2 dd dd2 sl sl2 rfl) ⟨ho, ho2, h1⟩
theorem getItem_tuple_whole {t sl : Addr} {items : Array Value} {vl vu : Value} {lo hi : Option Int} {Q : Value → Shared → Prop} (ht : IsTup s.heap t items) (hs : s.heap.IsSliceOf sl vl vu .none) (pl : IsPart vl lo) (pu : IsPart vu hi)
    (hw : sIx items.size 0 lo = 0 ∧ sIx items.size items.size hi = items.size)
    (h : Q (.ref t) s) : wpAny (model prog w) A (getItem (.ref t) (.ref sl)) Q E s := by
  obtain ⟨os, hos, hcs, hds⟩ := id hs
  have hTs : s.TypeIs (.ref sl) "slice" := ⟨os, hos, hcs⟩
  unfold getItem
  try with_reducible refine wpAny_holding ?_
  first | refine wpAny_bind (wpAny_pure ?_) | skip
  refine wpAny_bind (wpAny_sequenceKey ht.typeIs (by decide) ?_)
  refine wpAny_bind (wpAny_callSpecial?_slot (name := Str.ofString "__getitem__") ht.typeIs PyProof.Rows.slot_tuple_getitem
    (wpAny_call_entry PyProof.Rows.slot_tuple_getitem ht.typeIs entry_tuple_getitem ?_ (args_tuple_getitem _ _)))
  show wpAny _ _ (Builtin.Tuple.tupleItemsOf (.ref t) >>= _) _ _ s
  refine wpAny_bind (tupleItemsOf_ ht ?_)
  refine wpAny_bind (wpAny_typeOf hTs ?_)
  rw [if_pos (by decide)]
  refine wpAny_bind (sliceApplied_gen hs pl pu ?_)
  have hyes : (((sIx items.size 0 lo : Nat) : Int) == 0 && (1 : Int) == 1 && (sIx items.size items.size hi - sIx items.size 0 lo) == items.size) = true := by
    rw [hw.1, hw.2]; simp
  show wpAny _ _ (if (((sIx items.size 0 lo : Nat) : Int) == 0 && (1 : Int) == 1 && (sIx items.size items.size hi - sIx items.size 0 lo) == items.size) = true then _ else _) _ _ s
  rw [if_pos hyes]
  refine wpAny_bind (wpAny_bind (wpAny_typeOf ht.typeIs (wpAny_pure ?_)))
  rw [if_pos (by decide)]
  refine wpAny_bind (wpAny_rule ?_)
  first
    | exact wpAny_bind (wpAny_pure (wpAny_pure ⟨_, rfl, wpAny_pure h⟩))
    | exact wpAny_pure ⟨_, rfl, wpAny_pure h⟩
    | exact wpAny_bind (wpAny_pure ⟨_, rfl, wpAny_pure h⟩)
end
end HT
namespace L2
open PySem PySem.Spec PyProof.Rows
section
variable {X : Cx}
def rCat0 (K : PySem.W.Frag) : R2 := fun x y H Q => ∃ a b ys, x = .ref a ∧ y = .ref b ∧ SqT K H a [] ∧ SqT K H b ys ∧ Q (.ref b) H
theorem op_cat0 : OpR X (binaryOp .Add) (rCat0 X.K) := by
  intro pins s σ H x y v u Q I rx ry h
  obtain ⟨a, b, ys, rfl, rfl, ha, hb, q⟩ := h
  cases rx
  cases ry
  obtain ⟨its, r1, p1, _⟩ := I.tuple ha
  obtain ⟨its2, r2, p2, _⟩ := I.tuple hb
  have : its = [] := by cases r1; rfl
  subst this
  exact HT.cat_tup0 p1 p2 ⟨.ref b, H, I, rfl, q⟩
def rSlW (K : PySem.W.Frag) : V → Option Int → Option Int → Hp → VK → Prop := fun x lo hi H Q => ∃ a xs, x = .ref a ∧ SqT K H a xs ∧
  (HT.sIx xs.length 0 lo = 0 ∧ HT.sIx xs.length xs.length hi = xs.length) ∧ Q (.ref a) H
theorem sl_tupW : SlR X (rSlW X.K) := by
  intro pins s σ H x v vl vu lo hi sl Q I rx hs pl pu h
  obtain ⟨a, xs, rfl, hx, hw, q⟩ := h
  cases rx
  obtain ⟨its, r, ht, hz⟩ := I.tuple hx
  have hlen : its.toArray.size = xs.length := by rw [List.size_toArray]; exact r.length.symm
  refine ⟨"tuple", _, PyProof.Rows.slot_tuple_getitem.lookup, ht.typeIs, ?_⟩
  exact HT.getItem_tuple_whole ht hs pl pu (by rw [hlen]; exact hw) ⟨.ref a, H, I, rfl, q⟩
theorem vals_keys {P : Program} {w : World} : ∀ {kvs : List (Key × V)} {vs : List (Key × Value)} {us : List Value}, KV kvs vs → us.length = vs.length →
    (∀ (j : Nat) v, us[j]? = some v → ∃ k x, vs[j]? = some (k, x) ∧ (mixKind P w).is k v = true) → Vals (kvs.map fun kv => kV kv.1) us
  | [], _, us, .nil, hl, _ => by
    cases us with
    | nil => exact .nil
    | cons _ _ => simp at hl
  | p :: r, q :: t, us, .cons h rel, hl, hv => by
    cases us with
    | nil => simp at hl
    | cons u us =>
      obtain ⟨k, x, e, hk⟩ := hv 0 u rfl
      simp only [List.getElem?_cons_zero, Option.some.injEq] at e
      refine .cons ?_ (vals_keys (P := P) (w := w) rel (by simpa using hl) fun j v e => ?_)
      · show RelV (kV p.1) u
        rw [h.1, e]; exact kV_back hk
      · obtain ⟨k, x, e', hk⟩ := hv (j + 1) v (by simpa using e)
        exact ⟨k, x, by simpa using e', hk⟩
end
end L2
set_option Elab.async false
set_option linter.all false
set_option maxRecDepth 100000
set_option maxHeartbeats 4000000
namespace HT
open PySem PySem.Spec PyProof.Rows L2
section
variable {prog : Program} {w : World} {K : Type} [DecidableEq K] {knd : KeyKind prog w K} {A : Around} {E : Value → Shared → Prop} {s : Shared}
end
section
variable {prog : Program} {w : World} {A : Around} {E : Value → Shared → Prop} {s : Shared}
end
section
variable {prog : Program} {w : World} {K : Type} [DecidableEq K] {knd : KeyKind prog w K} {A : Around} {E : Value → Shared → Prop} {s : Shared}
end
end HT
namespace L2
open PySem PySem.Spec PyProof.Rows
section
variable {X : Cx}
end
end L2
set_option Elab.async false
set_option linter.all false
set_option maxRecDepth 100000
set_option maxHeartbeats 4000000
namespace L2
open PySem PySem.Spec PyProof.Rows
section
variable {X : Cx}
theorem ints_are : ∀ {ns : List Int} {its : List Value}, Vals (ns.map V.int) its → IntsAre its ns
  | [], _, r => by rw [List.map_nil] at r; cases r; exact .nil
  | n :: ns, _, r => by
    rw [List.map_cons] at r
    cases r with
    | cons h t => obtain ⟨tk, rfl⟩ := h; exact .cons n tk (ints_are t)
theorem ints_vals : ∀ {ns : List Int} {its : List Value}, IntsAre its ns → Vals (ns.map V.int) its
  | _, _, .nil => .nil
  | _, _, .cons n t h => .cons ⟨t, rfl⟩ (ints_vals h)
def FT (x : V) (H : Hp) : Prop := ∃ p o xs, x = .ref p ∧ H p = some (.frz o (.tup xs)) ∧ o.dict = none
theorem FT.is {pins : List (Addr × Obj)} {σ : St} {H : Hp} {s : Shared} {x : V} {v : Value} (I : Inv X pins σ H s) (r : RelV x v) (h : FT x H) :
    s.TypeIs v "tuple" ∧ ∀ a, v = .ref a → ∃ ob, s.heap.get? a = some ob ∧ ob.dict = none := by
  obtain ⟨p, o, xs, rfl, h1, h2⟩ := h
  cases r
  obtain ⟨e, _, its, _, o', e', c, n, d⟩ := I.hok p _ h1
  rw [e] at e'
  cases e'
  exact ⟨⟨o, e, c⟩, fun a ea => by cases ea; exact ⟨o, e, h2⟩⟩
variable {o e : Expr} {es : List Expr} {to : TE} {t : TA} {name : Str} {apos cpos : Pos} {T id : String} {r : V → List V → Hp → VK → Prop}
def isN (n : Int) : Value → Bool
  | .int m _ => m == n
  | _ => false
theorem collect_dict {P : Program} {w : World} {A : Around} {E : Value → Shared → Prop} {s : Shared} {T : String} {r d : Addr} {n : Nat} {Pv : Nat → Value → Prop} {OK : Heap → Prop} {Q : List Value → Shared → Prop} (K : PySem.W.KdlSrc P w T r d n Pv OK) (hh : A.handled = none) (hok : OK s.heap) (hn : n ≤ sizeLine)
    (h : ∀ h' tk (vs : List Value), (∀ b o, s.heap.get? b = some o → h'.get? b = some o) → vs.length = n → (∀ j v, vs[j]? = some v → Pv j v) → Q vs { s with heap := h', toks := tk }) :
    wpAny (model P w) A (collect (.ref r)) Q E s := by
  unfold collect
  refine wpAny_bind (wpAny_runValue (codeAny_builtin entry_proto_collect' ?_))
  show wpAny _ _ (do again (.builtin "list.__iadd__" ⟨[← newList [], .ref r], []⟩)) _ _ s
  refine wpAny_bind (wpAny_newList (wpAny_pure ⟨Code.quiet_builtin _ (by decide +kernel), codeAny_builtin entry_list_iadd' ?_⟩))
  show wpAny _ _ (Builtin.List.listExtendWith (.ref s.heap.objs.size) (.ref r) (.ref s.heap.objs.size)) _ _ { s with heap := s.heap.push (seqObj "list" #[] 0) }
  have hlt := K.there _ hok
  rw [Around.under_plainId (by decide +kernel) _]
  refine PySem.W.kdl_extend (R := fun r s' => match r with
    | .ok (.ret v) => wpAny (model P w) A (match v with
      | .ref a => do
        let o ← load a
        match o.data with
        | .seq xs _ => pure xs.toList
        | _ => unsupported "internal:collect"
      | _ => unsupported "internal:collect") Q E s'
    | .ok _ => False
    | .error e => E e s') (s := { s with heap := s.heap.push (seqObj "list" #[] 0) }) K hh (K.keep _ _ hok fun b _ o e => Heap.get?_push_of_some _ e) s.heap.objs.size (Nat.ne_of_gt hlt.1) (Nat.ne_of_gt hlt.2) (.ref s.heap.objs.size) 0 (Heap.get?_push_size _ rfl) (fun h' tk acc' c' hk hS' hacc => ?_) hn
  show wpAny (model P w) A (do
      let o ← load s.heap.objs.size
      match o.data with
      | .seq xs _ => pure xs.toList
      | _ => unsupported "internal:collect") Q E { s with heap := h', toks := tk }
  refine wpAny_bind (wpAny_load hS' ?_)
  show wpAny _ _ (pure acc'.toList) Q E _
  exact wpAny_pure (h h' tk acc'.toList (fun b o e => hk b o (Nat.ne_of_lt (Heap.lt_size e)) (Heap.get?_push_of_some _ e)) (by rw [Array.length_toList]; exact hacc.1) fun j v e => hacc.2 j v (by rw [← Array.getElem?_toList]; exact e))
end
end L2
set_option Elab.async false
set_option linter.all false
set_option maxRecDepth 100000
set_option maxHeartbeats 4000000
namespace L2
open PySem PySem.Spec PyProof.Rows
section
variable {prog : Program} {w : World} {A : Around} {R : Result → Shared → Prop} {s : Shared}
theorem compLoop_tests {elt target iter : Expr} {ifs : List Expr} {scope : Scope} {pos : Pos} {it acc : Value} {env : Env} (I : Nat → Shared → Prop)
    (turn : ∀ n s, I n s → wpAny (model prog w) A (pyNext it) (fun r s₁ => match r with
      | none => R (.ok .next) s₁
      | some v => wpAny (model prog w) A (letOwnedTupleGo target it v) (fun _ s₀ => wpAny (model prog w) A (assign target env v) (fun _ s₂ =>
          wpAny (model prog w) A (forIn ifs true fun c r => if r = true then do let ok ← isTrue c env (eval c env); pure (ForInStep.yield ok) else pure (ForInStep.yield r)) (fun ok s₃ =>
            if ok = true then wpAny (model prog w) A (eval elt env) (fun x s₄ =>
              wpAny (model prog w) A (call (.builtin "list.append") [acc, x]) (fun _ s₅ => ∃ m, m < n ∧ I m s₅) (notedBy (model prog w) A env fun e s' => R (.error e) s') s₄) (notedBy (model prog w) A env fun e s' => R (.error e) s') s₃
            else ∃ m, m < n ∧ I m s₃) (notedBy (model prog w) A env fun e s' => R (.error e) s') s₂) (notedBy (model prog w) A env fun e s' => R (.error e) s') s₀) (notedBy (model prog w) A env fun e s' => R (.error e) s') s₁) (notedBy (model prog w) A env fun e s' => R (.error e) s') s)
    (n : Nat) (h : I n s) : codeAny (model prog w) A (.compLoop (.ListComp elt [⟨target, iter, ifs, 0⟩] scope pos) 0 it acc env) R s := by
  refine codeAny_loop rfl I (fun n s hI => ?_) n h
  show wpAny _ A ((compTurn (.ListComp elt [⟨target, iter, ifs, 0⟩] scope pos) 0 it acc env).onRaise (fun x => do noteFrame x env; theTreesLotGoes x)) _ _ s
  refine wpAny_noted ?_
  rw [compTurn_list]
  refine wpAny_bind (wpAny_standAt (wpAny_bind (wpAny_mono (turn n s hI) (fun r s₁ h₁ => ?_) fun _ _ h' => h')))
  cases r with
  | none => exact wpAny_pure h₁
  | some v =>
    refine wpAny_bind (wpAny_mono h₁ (fun _ s₀ h₀ => ?_) fun _ _ h' => h')
    refine wpAny_bind (wpAny_mono h₀ (fun _ s₂ h₂ => wpAny_bind (wpAny_mono h₂ (fun ok s₃ h₃ => ?_) fun _ _ h' => h')) fun _ _ h' => h')
    cases ok with
    | false => exact wpAny_pure ⟨rfl, h₃⟩
    | true =>
      exact wpAny_bind (wpAny_bind (wpAny_mono h₃ (fun x s₄ h₄ => wpAny_bind (wpAny_mono h₄ (fun _ s₅ h₅ => wpAny_pure (wpAny_pure ⟨rfl, h₅⟩)) fun _ _ h' => h')) fun _ _ h' => h'))
end
def bN2 (N : List Str) (ts : List Str) (ix : List Nat) : List Str := ts ++ ix.map fun i => N.getD i Str.empty
def bS2 (σ : St) (o : List (Option V)) (ix : List Nat) : St := o ++ ix.map fun i => (σ[i]?).getD none
section
variable {X : Cx}
theorem comp_blk2 {elt iter : Expr} {x : Str} {ts : List Str} {tg : Expr} {gt : TG} {pos : Pos} {scope : Scope} {te : TE} {tt : TT} {ifs : List Expr} {ix : List Nat} {pins : List (Addr × Obj)} {s : Shared} {σ : St} {H : Hp} {cl : List (Str × Addr)}
    {J : It} {fp : List Addr} {it : Addr} {tn : Nat → Heap → Prop} {E : Value → Shared → Prop} {RR : Value → Addr → Result → Shared → Prop} {G : List V → Hp → Prop}
    (I : Inv X pins σ H s) (hc : X.calm = true) (B : BlkScope X.env scope x) (h1 : ∀ y c, cl.lookup y = some c → X.env.cells.lookup y = some c) (h3 : ∀ y ∈ scope.names, y.2 = .free → ∃ c, cl.lookup y.1 = some c)
    (hix : ∀ i ∈ ix, ∃ y, X.N[i]? = some y ∧ scope.names.lookup y = some .free) (hN : (bN2 X.N ts ix).Nodup)
    (T : Turn X.prog X.w X.K tg J fp it tn) (st : tn 0 s.heap) (hf : ∀ b ∈ fp, FpOk X pins H b)
    (hg : ∀ cl C s₀ H₀ fp, PG (cxBlk X scope cl C (bN2 X.N ts ix) s₀ H₀ fp) tg gt)
    (he : ∀ cl C s₀ H₀ fp, PE (cxBlk X scope cl C (bN2 X.N ts ix) s₀ H₀ fp) elt te)
    (hi : ∀ cl C s₀ H₀ fp, PIfs (cxBlk X scope cl C (bN2 X.N ts ix) s₀ H₀ fp) ifs tt)
    (W : Nat → Nat → List V → Hp → Prop) (m₀ : Nat) (w0 : W 0 m₀ [] H)
    (turn : ∀ i m ys H, W i m ys H → (J.stop i H ∧ ys.length ≤ sizeLine ∧ G ys H) ∨ (J.go i H ∧ ys.length < sizeLine ∧ ∀ v H', J.yld i H v H' → ∀ o : List (Option V), o.length = ts.length → gt v (bS2 σ o ix) H' fun σ2 H2 => ∃ o2 : List (Option V), σ2 = bS2 σ o2 ix ∧ o2.length = ts.length ∧
        tt σ2 H2 fun b H1 => if b = true then te σ2 H1 fun y H2 => ∃ m', m' < m ∧ W (i + 1) m' (ys ++ [y]) H2 else ∃ m', m' < m ∧ W (i + 1) m' ys H1))
    (hRR : ∀ D C s' ys H', Inv X pins σ (upd H' D (.lst ys)) s' → H' D = none → H' C = none → (∃ m, s'.heap.Ns C m) → s.heap.objs.size ≤ C → D ≠ C → G ys H' → RR (.ref D) C (.ok .next) s') :
    wpAny (model X.prog X.w) X.A (newList []) (fun acc s₃ => wpAny (model X.prog X.w) X.A (newFunctionEnv scope X.env.globals cl [] X.env.qual none .none (some X.env)) (fun cenv s₄ =>
      codeAny (model X.prog X.w) X.A (.compStart (.ListComp elt [⟨tg, iter, ifs, 0⟩] scope pos) 0 (.ref it) acc { cenv with scope := relabel scope X.env }) (RR acc cenv.locals) s₄) E s₃) E s := by
  have hl : ∀ b ∈ fp, b < s.heap.objs.size := fun b hb => by obtain ⟨o, e, _⟩ := T.obj 0 _ st b hb; exact Heap.lt_size e
  refine wpAny_newObj_type (wpAny_newFunctionEnv B.cells (by intro y hy; simp at hy) (fun h₁ hns₁ hsb₁ => ?_) B.kind)
  dsimp only at hns₁ hsb₁ ⊢
  generalize hH2 : s.heap.push { cls := .type "list", dict := none, data := .seq ([] : List Value).toArray } = H2 at hns₁ hsb₁ ⊢
  have hC : H2.objs.size = s.heap.objs.size + 1 := by rw [← hH2, Heap.size_push]
  generalize hD : s.heap.objs.size = D at hC hl hRR ⊢
  generalize hCC : H2.objs.size = C at hC hns₁ hsb₁ ⊢
  have hDC : D ≠ C := by omega
  have old : ∀ b o, s.heap.get? b = some o → h₁.get? b = some o := fun b o e => hsb₁.extBut b o (Nat.ne_of_lt (by have z := Heap.lt_size e; rw [hD] at z; exact Nat.lt_of_lt_of_le z (by rw [hC]; exact Nat.le_succ _))) (Heap.get?_push_of_some _ (hH2 ▸ Heap.get?_push_of_some _ e))
  have hacc : h₁.get? D = some { cls := .type "list", data := .seq ([] : List Value).toArray 0 } := hsb₁.extBut _ _ hDC (Heap.get?_push_of_some _ (hH2 ▸ (by rw [← hD]; exact Heap.get?_push_size _ rfl)))
  have hfr : ∀ a, D ≤ a → s.heap.get? a = none := fun a ha => by
    cases e : s.heap.get? a with
    | none => rfl
    | some o => exact absurd (Heap.lt_size e) (by rw [hD]; exact Nat.not_lt.mpr ha)
  have hHn : ∀ a, D ≤ a → H a = none := fun a ha => I.hok.fresh (by omega)
  have ok : (cxBlk X scope cl C (bN2 X.N ts ix) s H fp).Ok := blk_ok I B h1 h3 (by omega) hf (by rw [hD]; exact hl)
  generalize hK : cxBlk X scope cl C (bN2 X.N ts ix) s H fp = K at ok
  have kp : K.prog = X.prog := by rw [← hK]; rfl
  have kw : K.w = X.w := by rw [← hK]; rfl
  have kK : K.K = X.K := by rw [← hK]; rfl
  have kA : K.A = X.A := by rw [← hK]; rfl
  have kc : K.calm = true := by rw [← hK]; exact hc
  have kN : K.N = bN2 X.N ts ix := by rw [← hK]; rfl
  have kenv : K.env = compEnvC scope cl C X.env := by rw [← hK]; rfl
  have kloc : K.env.locals = C := by rw [← hK]; rfl
  have kfs : K.fs = frs X.stack := by rw [← hK]; rfl
  have kex : K.ex = fp := by rw [← hK]; rfl
  have kpn : K.pn = [] := by rw [← hK]; rfl
  have ks : K.s₀ = s := by rw [← hK]; rfl
  have kH : K.H₀ = H := by rw [← hK]; rfl
  have kx : K.xe = fun _ _ => False := by rw [← hK]; rfl
  have kcl : K.env.cells = cl := by rw [← hK]; rfl
  have cellLt : ∀ y c, cl.lookup y = some c → c < D := fun y c q => by obtain ⟨v, z⟩ := I.cell y c (h1 y c q); rw [← hD]; exact z.lt
  have stkLt : ∀ b ∈ frs X.stack, b < D := fun b hb => by
    rcases List.mem_cons.mp (I.stkSub b hb) with q | q
    · rw [q, ← hD]; exact I.lt
    · rcases Nat.lt_or_ge b D with z | z
      · exact z
      · exact absurd q (I.nofs (by omega))
  -- the state at the block's begin
  have I0 : ∀ tk, Inv K [(D, { cls := .type "list", data := .seq ([] : List Value).toArray 0 })] (bS2 σ (ts.map fun _ => none) ix) H { s with heap := h₁, toks := tk } := fun tk => by
    refine ⟨ok, by rw [ks], I.bare, by rw [ks, kH]; exact Un.kept old, ?_, ?_, ?_, ?_, ?_, by rw [kp, kw]; exact I.hok.kept old, ?_⟩
    · refine ⟨_, by rw [kloc]; exact hns₁, fun i y v e1 e2 e3 => ?_⟩
      rw [kN] at e1
      by_cases hlt : i < ts.length
      · unfold bS2 at e2
        rw [List.getElem?_append_left (by simpa using hlt), List.getElem?_map] at e2
        cases hts : ts[i]? with
        | none => rw [hts] at e2; cases e2
        | some y' => rw [hts] at e2; have e2 : (some (none : Option V)) = some (some v) := e2; cases e2
      · obtain ⟨i, rfl⟩ : ∃ i', i = ts.length + i' := ⟨i - ts.length, by omega⟩
        have e1' : (ix.map fun i => X.N.getD i Str.empty)[i]? = some y := by
          unfold bN2 at e1
          rw [List.getElem?_append_right (by omega), show ts.length + i - ts.length = i by omega] at e1
          exact e1
        have e2' : (ix.map fun i => (σ[i]?).getD none)[i]? = some (some v) := by
          unfold bS2 at e2
          rw [List.getElem?_append_right (by rw [List.length_map]; omega), List.length_map, show ts.length + i - ts.length = i by omega] at e2
          exact e2
        rw [List.getElem?_map] at e1' e2'
        cases q : ix[i]? with
        | none => rw [q] at e1'; cases e1'
        | some j =>
          rw [q] at e1' e2'
          obtain ⟨y', a1, a2⟩ := hix j (List.mem_of_getElem? q)
          have a3 : X.N.getD j Str.empty = y' := by simp [List.getD, a1]
          have ey : y' = y := by rw [← a3]; exact Option.some.inj e1'
          subst ey
          have es : σ[j]? = some (some v) := by
            have z : (σ[j]?).getD none = some v := Option.some.inj e2'
            cases w : σ[j]? with
            | none => rw [w] at z; cases z
            | some o => rw [w] at z; have z' : o = some v := z; rw [z']
          obtain ⟨m, hn, hlk⟩ := I.loc
          have hk := B.free (y', .free) (PySem.mem_of_lookup a2) rfl
          have hk : X.env.kindOf y' = some .cell ∨ X.env.kindOf y' = some .free := hk
          have vis : Vis X.env.scope y' := hk.elim (fun z => .inr (.inl z)) fun z => .inr (.inr z)
          obtain ⟨u, ru, lk⟩ := hlk j y' v a1 es vis
          refine ⟨u, ru, ?_⟩
          rcases lk with ⟨k, _⟩ | ⟨_, c, ec, ce⟩
          · rcases hk with z | z <;> (rw [k] at z; cases z)
          · obtain ⟨c', ec'⟩ := h3 (y', .free) (PySem.mem_of_lookup a2) rfl
            have ec' : cl.lookup y' = some c' := ec'
            have : c' = c := Option.some.inj ((h1 y' c' ec').symm.trans ec)
            subst this
            refine .inr ⟨?_, c', by rw [kcl]; exact ec', ?_⟩
            · show K.env.scope.names.lookup y' = _ ∨ K.env.scope.names.lookup y' = _
              rw [kenv]
              exact lookup_relabel_free a2
            · obtain ⟨oc, hoc, r⟩ := ce
              exact ⟨oc, old _ _ hoc, r⟩
    · intro y c q
      rw [kcl] at q
      obtain ⟨v, oc, hoc, r⟩ := I.cell y c (h1 y c q)
      exact ⟨v, oc, old _ _ hoc, r⟩
    · rw [kloc]; exact hHn _ (by omega)
    · intro y c q
      rw [kcl] at q
      exact I.freeC y c (h1 y c q)
    · intro p hp
      rw [kpn] at hp
      have e : p = (D, { cls := .type "list", data := .seq ([] : List Value).toArray 0 }) := by simpa using hp
      subst e
      refine ⟨hacc, hHn _ (Nat.le_refl _), by rw [kloc]; exact hDC, ?_, fun v z => ?_⟩
      · rw [kfs]; intro z; exact absurd (stkLt D z) (Nat.lt_irrefl _)
      · have z' : Data.seq _ _ = Data.cell v := z
        cases z'
    · rw [kN]; simp [bS2, bN2]
  have stat : ∀ {H' : Hp} {ob : Obj}, (∀ b ∈ fp, H' b = none) → ∀ b ∈ fp, FpOk K [(D, ob)] H' b := fun {H' ob} hn b hb => by
    refine ⟨hn b hb, ?_, ?_, .inl (by rw [kex]; exact hb), ?_, ?_⟩
    · rw [kloc]; exact Nat.ne_of_lt (Nat.lt_of_lt_of_le (hl b hb) (by rw [hC]; exact Nat.le_succ _))
    · rw [kfs]; intro z
      rcases List.mem_cons.mp (I.stkSub b z) with q | q
      · exact (hf b hb).2.1 q
      · exact (hf b hb).2.2.1 q
    · intro y c q; rw [kcl] at q; exact (hf b hb).2.2.2.2.1 y c (h1 y c q)
    · intro p hp; rw [kpn] at hp
      have e : p = (D, ob) := by simpa using hp
      subst e
      exact Nat.ne_of_gt (hl b hb)
  have st₁ : tn 0 h₁ := T.keep _ _ _ st fun b hb o e => old b o e
  have loop : ∀ tk, codeAny (model X.prog X.w) X.A (.compLoop (.ListComp elt [⟨tg, iter, ifs, 0⟩] scope pos) 0 (.ref it) (.ref D) (compEnvC scope cl C X.env)) (RR (.ref D) C) { s with heap := h₁, toks := tk } := by
    intro tk
    refine compLoop_tests (fun n s' => ∃ i o H' ys its c, o.length = ts.length ∧ Inv K [(D, { cls := .type "list", data := .seq (its : List Value).toArray c })] (bS2 σ o ix) H' s' ∧ Vals ys its ∧ tn i s'.heap ∧ (∀ b ∈ fp, H' b = none) ∧ W i n ys H') ?_ m₀
      ⟨0, ts.map (fun _ => none), H, [], [], 0, by simp, I0 tk, .nil, st₁, fun b hb => (hf b hb).1, w0⟩
    rintro n s1 ⟨i, o, H1, ys, its, c, ol, I1, rv, t1, f1, w1⟩
    rcases turn i n ys H1 w1 with ⟨stop, hz, g⟩ | ⟨go, hz, step⟩
    · have dn := T.done K kp kw kK kc i _ s1 _ H1 (notedBy (model X.prog X.w) X.A (compEnvC scope cl C X.env) fun e s' => RR (.ref D) C (.error e) s') I1 (stat f1) t1 stop
      rw [kA] at dn
      refine thn dn fun r s2 ⟨hr, I2⟩ => ?_
      subst hr
      obtain ⟨p1, p2, p3, p4, p5⟩ := I2.pin (D, { cls := .type "list", data := .seq its.toArray c }) (List.mem_append_right _ (List.mem_singleton.mpr rfl))
      have u2 := I2.base
      rw [kfs, kex, kH, ks] at u2
      refine hRR D C s2 ys H1 ?_ p2 (by rw [← kloc]; exact I2.free) (by obtain ⟨m, hm, _⟩ := I2.loc; rw [kloc] at hm; exact ⟨m, hm⟩) (by omega) hDC g
      have hk2 : HOk X.prog X.w H1 s2.heap := by have := I2.hok; rw [kp, kw] at this; exact this
      refine I.call' (ch := fp) (by have := I2.os; rw [ks] at this; exact this) (u2.add (hfr D (Nat.le_refl _)) (hHn D (Nat.le_refl _))) (hk2.add p2 ⟨hz, its, c, rv, p1⟩) I2.bare fun b hb => ?_
      exact ⟨(hf b hb).2.2.2.1, (hf b hb).2.1, (hf b hb).2.2.2.2.1, (hf b hb).2.2.2.2.2⟩
    · have im := T.item K kp kw kK kc i _ s1 _ H1 (notedBy (model X.prog X.w) X.A (compEnvC scope cl C X.env) fun e s' => RR (.ref D) C (.error e) s') I1 (stat f1) t1 go
      rw [kA] at im
      refine thn im fun r s2 ⟨u, hr, h2⟩ => ?_
      subst hr
      refine thn h2 fun _ s3 ⟨v, H3, I3, r3, y3, t3, f3⟩ => ?_
      have q3 := step v H3 y3 o ol
      have I3' := I3.pinned (stat f3) (T.obj _ _ t3)
      have hg' := hg cl C s H fp
      rw [hK] at hg'
      have hgv := hg' _ s3 _ H3 v u _ I3' r3 q3
      rw [kx, kp, kw, kA, kenv] at hgv
      refine wpAny_mono hgv (fun _ s4 ⟨σ4, H4, I4, o4, e4, l4, q4⟩ => ?_) fun _ _ z => z.elim
      subst e4
      have hi' := hi cl C s H fp
      rw [hK] at hi'
      have hiv := hi' _ s4 _ H4 _ I4 q4
      rw [kx, kp, kw, kA, kenv] at hiv
      refine wpAny_mono hiv (fun ok s5 ⟨H5, I5, q5⟩ => ?_) fun _ _ z => z.elim
      have back : ∀ {H7 : Hp} {s7 : Shared} {o7 : List (Option V)}, Inv K ([(D, { cls := .type "list", data := .seq its.toArray c })] ++ pinsAt fp s3.heap) (bS2 σ o7 ix) H7 s7 → tn (i + 1) s7.heap ∧ ∀ b ∈ fp, H7 b = none := fun {H7 s7 o7} I7 => by
        refine ⟨T.keep _ _ _ t3 fun b hb o e => (I7.pin (b, o) (List.mem_append_right _ (List.mem_append_right _ (mem_pinsAt hb e)))).1, fun b hb => ?_⟩
        obtain ⟨ob, e, d⟩ := T.obj _ _ t3 b hb
        exact (I7.pin (b, ob) (List.mem_append_right _ (List.mem_append_right _ (mem_pinsAt hb e)))).2.1
      cases ok with
      | false =>
        rw [if_neg Bool.false_ne_true]
        have q5 : ∃ m', m' < n ∧ W (i + 1) m' ys H5 := q5
        obtain ⟨m', hm, w5⟩ := q5
        obtain ⟨b1, b2⟩ := back I5
        exact ⟨m', hm, i + 1, o4, H5, ys, its, c, l4, I5.unpinned, rv, b1, b2, w5⟩
      | true =>
        rw [if_pos rfl]
        have q5 : te (bS2 σ o4 ix) H5 fun y H2 => ∃ m', m' < n ∧ W (i + 1) m' (ys ++ [y]) H2 := q5
        have he' := he cl C s H fp
        rw [hK] at he'
        have hev := he' _ s5 _ H5 _ I5 q5
        rw [kx, kp, kw, kA, kenv] at hev
        refine wpAny_mono hev (fun y s6 ⟨yv, H6, I6, r6, m', hm, w6⟩ => ?_) fun _ _ z => z.elim
        obtain ⟨b1, b2⟩ := back I6
        have I6' := I6.unpinned
        obtain ⟨p1, p2, p3, p4, p5⟩ := I6'.pin (D, { cls := .type "list", data := .seq its.toArray c }) (List.mem_append_right _ (List.mem_singleton.mpr rfl))
        have hlen := rv.length
        refine call_meets F.slot_list_append ⟨_, p1, rfl⟩ F.entry_list_append (F.args_list_append_2 _ _) (PySem.list_append D its.toArray c y (by rw [List.size_toArray]; omega)) ⟨p1, ?_⟩
        have ea : its.toArray.push y = (its ++ [y]).toArray := by simp
        obtain ⟨c', q⟩ : ∃ c', (s6.heap.update D (Obj.mapSeq (·.push y))).get? D = some { cls := .type "list", data := .seq (its ++ [y]).toArray c' } := ⟨_, by rw [← ea]; exact PySem.IsL.update p1 (·.push y)⟩
        refine ⟨m', hm, i + 1, o4, H6, ys ++ [yv], its ++ [y], c', l4, ?_, rv.append (.cons r6 .nil), T.keep _ _ _ b1 fun b hb o e => ?_, b2, w6⟩
        · have Id : Inv K [] (bS2 σ o4 ix) H6 s6 := I6'.pins_of fun p hp => by simp at hp
          have It : Inv K [] (bS2 σ o4 ix) H6 { s6 with heap := s6.heap.update D (Obj.mapSeq (·.push y)) } := Id.turned (t' := s6.toks) (it := D) (fun b o hb e => (Heap.get?_update_other _ _ (Ne.symm hb)).trans e) p2 p3
            (.inr (by rw [ks]; omega)) (fun y' c' e => by rw [kcl] at e; exact Nat.ne_of_lt (cellLt y' c' e)) (fun p hp => by rw [kpn] at hp; simp at hp)
          refine It.pins_of fun p hp => ?_
          obtain rfl : p = (D, { cls := .type "list", data := .seq (its ++ [y]).toArray c' }) := by simpa using hp
          refine ⟨q, p2, p3, p4, fun v z => ?_⟩
          have z' : Data.seq _ _ = Data.cell v := z
          cases z'
        · exact (Heap.get?_update_other _ _ (Nat.ne_of_gt (hl b hb))).trans e
  have selfs : wpAny (model X.prog X.w) X.A (pyIter (.ref it)) (fun it' s' => codeAny (model X.prog X.w) X.A (.compLoop (.ListComp elt [⟨tg, iter, ifs, 0⟩] scope pos) 0 it' (.ref D) (compEnvC scope cl C X.env)) (RR (.ref D) C) s')
      (notedBy (model X.prog X.w) X.A (compEnvC scope cl C X.env) fun e s' => RR (.ref D) C (.error e) s') { s with heap := h₁, toks := s.toks + ([] : List (Str × Value)).length } := T.self X.A 0 _ _ _ st₁ (loop _)
  exact codeAny_compStart_list (loop _) selfs
def tComp2 (ts : List Str) (wi : TI) (gt : TG) (tt : TT) (te : TE) (ix : List Nat) : TE := fun σ H Q => wi σ H fun J H1 => ∃ (W : Nat → Nat → List V → Hp → Prop) (m₀ : Nat), W 0 m₀ [] H1 ∧
  ∀ i m ys H, W i m ys H → (J.stop i H ∧ ys.length ≤ sizeLine ∧ ∀ l, H l = none → Q (.ref l) (upd H l (.lst ys))) ∨ (J.go i H ∧ ys.length < sizeLine ∧ ∀ v H', J.yld i H v H' → ∀ o : List (Option V), o.length = ts.length → gt v (bS2 σ o ix) H' fun σ2 H2 => ∃ o2 : List (Option V), σ2 = bS2 σ o2 ix ∧ o2.length = ts.length ∧
    tt σ2 H2 fun b H1 => if b = true then te σ2 H1 fun y H2 => ∃ m', m' < m ∧ W (i + 1) m' (ys ++ [y]) H2 else ∃ m', m' < m ∧ W (i + 1) m' ys H1)
theorem pe_comp2 {elt iter : Expr} {x : Str} {ts : List Str} {tg : Expr} {gt : TG} {pos : Pos} {scope : Scope} {te : TE} {tt : TT} {wi : TI} {ifs : List Expr} (ix : List Nat) (hc : X.calm = true) (B : BlkScope X.env scope x)
    (hix : ∀ i ∈ ix, ∃ y, X.N[i]? = some y ∧ scope.names.lookup y = some .free) (hN : (bN2 X.N ts ix).Nodup) (hi : PI X tg iter wi)
    (hg : ∀ cl C s₀ H₀ fp, PG (cxBlk X scope cl C (bN2 X.N ts ix) s₀ H₀ fp) tg gt)
    (ht : ∀ cl C s₀ H₀ fp, PIfs (cxBlk X scope cl C (bN2 X.N ts ix) s₀ H₀ fp) ifs tt)
    (he : ∀ cl C s₀ H₀ fp, PE (cxBlk X scope cl C (bN2 X.N ts ix) s₀ H₀ fp) elt te)
    (hs : ∀ x, foldedSetIterable iter X.env x = pure x := by intro _; rfl) :
    PE X (.ListComp elt [⟨tg, iter, ifs, 0⟩] scope pos) (tComp2 ts wi gt tt te ix) := by
  intro pins s σ H Q I h
  obtain ⟨cl, hcl, h1, h3⟩ := closure_for (blk_free I B)
  rw [eval_ListComp]
  refine wpAny_comprehension_free (use := none) rfl hs hcl B.kind B.names (thn (hi pins s σ H _ I h) fun v s1 h1' => thn h1' fun itv s2 h2 => ?_)
  obtain ⟨it, fp, tn, J, H2, e, I2, T, st2, f2, W, m0, w0, turn⟩ := h2
  subst e
  refine comp_blk2 (G := fun ys H' => ∀ l, H' l = none → Q (.ref l) (upd H' l (.lst ys))) I2 hc B h1 h3 hix hN T st2 f2 hg he ht W m0 w0 turn fun D C s' ys H' I' hD hC hm hCs hDC g => ?_
  obtain ⟨m, hm⟩ := hm
  refine ⟨m, hm, fun h' hsb => ⟨.ref D, upd H' D (.lst ys), I2.blkGone I' hCs (by rw [upd_ne (Ne.symm hDC)]; exact hC) hsb, rfl, g D hD⟩⟩
theorem ps_comp2 {elt iter : Expr} {x y : Str} {ts : List Str} {tg : Expr} {gt : TG} {py pos spos : Pos} {scope : Scope} {te : TE} {tt : TT} {wi : TI} {ifs : List Expr} {j : Nat} (ix : List Nat) (hc : X.calm = true) (B : BlkScope X.env scope x)
    (hNd : X.N.Nodup) (hj : X.N[j]? = some y) (hy : Loc X.env.scope y)
    (hsw : swapsWith (.ListComp elt [⟨tg, iter, ifs, 0⟩] scope pos) (some (.Name y py)) spos.line X.env = pure true)
    (hix : ∀ i ∈ ix, ∃ y, X.N[i]? = some y ∧ scope.names.lookup y = some .free) (hN : (bN2 X.N ts ix).Nodup) (hi : PI X tg iter wi)
    (hg : ∀ cl C s₀ H₀ fp, PG (cxBlk X scope cl C (bN2 X.N ts ix) s₀ H₀ fp) tg gt)
    (ht : ∀ cl C s₀ H₀ fp, PIfs (cxBlk X scope cl C (bN2 X.N ts ix) s₀ H₀ fp) ifs tt)
    (he : ∀ cl C s₀ H₀ fp, PE (cxBlk X scope cl C (bN2 X.N ts ix) s₀ H₀ fp) elt te)
    (hf : X.fn y = true ∨ X.env.scope.names.lookup y = some .local := by first | exact .inl rfl | exact .inr rfl | assumption)
    (hs : ∀ x, foldedSetIterable iter X.env x = pure x := by intro _; rfl) :
    PS X (.Assign [.Name y py] (.ListComp elt [⟨tg, iter, ifs, 0⟩] scope pos) spos) (tAsg (tComp2 ts wi gt tt te ix) (gName j)) := by
  intro pins s σ H D0 I h
  obtain ⟨cl, hcl, h1, h3⟩ := closure_for (blk_free I B)
  rw [exec_Assign_Name_used _ _ _ _ hsw]
  refine wpAny_bind (wpAny_standAt (wpAny_bind ?_))
  show wpAny _ X.A (do let _ ← comprehension (.ListComp elt [⟨tg, iter, ifs, 0⟩] scope pos) scope X.env _ (newList []) false (eval iter X.env) (some (assign (.Name y py) X.env))) _ _ s
  refine wpAny_bind (wpAny_mono (wpAny_comprehension_free (use := some (assign (.Name y py) X.env)) (Q := fun _ s' => SP X pins D0 .next s') rfl hs hcl B.kind B.names
    (thn (hi pins s σ H _ I h) fun v s1 h1' => thn h1' fun itv s2 h2 => ?_)) (fun _ s' hq => wpAny_pure (wpAny_pure hq)) fun _ _ e => e)
  obtain ⟨it, fp, tn, J, H2, e, I2, T, st2, f2, W, m0, w0, turn⟩ := h2
  subst e
  refine comp_blk2 (G := fun ys H' => ∀ l, H' l = none → gName j (.ref l) σ (upd H' l (.lst ys)) D0.nx) I2 hc B h1 h3 hix hN T st2 f2 hg he ht W m0 w0 turn fun D C s' ys H' I' hD hC hm hCs hDC g => ?_
  obtain ⟨m, hm⟩ := hm
  have hCn : upd H' D (.lst ys) C = none := by rw [upd_ne (Ne.symm hDC)]; exact hC
  show wpAny _ _ (assign (.Name y py) X.env (.ref D)) _ _ s'
  refine wpAny_assign_Name (store_ok2 I' hNd hj hy (show RelV (.ref D) (.ref D) from rfl) (fun s3 I3 ⟨a, hsa, ha⟩ => ?_) hf)
  have hCa : C ≠ a := by
    rcases ha with z | z
    · rw [z]; exact Nat.ne_of_gt (Nat.lt_of_lt_of_le I2.lt hCs)
    · obtain ⟨v, q⟩ := I2.cell y a z; exact Nat.ne_of_gt (Nat.lt_of_lt_of_le q.lt hCs)
  exact ⟨m, hm.sameBut hsa hCa, fun h' hsb => ⟨_, _, I2.blkGone I3 hCs hCn hsb, g D hD⟩⟩
end
end L2
set_option Elab.async false
set_option linter.all false
set_option maxRecDepth 100000
set_option maxHeartbeats 4000000
namespace HT
open PySem PySem.Spec PyProof.Rows L2
section
variable {prog : Program} {w : World} {A : Around} {E : Value → Shared → Prop} {s : Shared}
end
section
variable {prog : Program} {w : World} {A : Around} {E : Value → Shared → Prop} {s : Shared}
end
end HT
namespace L2
open PySem PySem.Spec PyProof.Rows
section
variable {X : Cx}
end
end L2
set_option Elab.async false
set_option linter.all false
set_option maxRecDepth 100000
set_option maxHeartbeats 4000000
namespace L2
open PySem PySem.Spec PyProof.Rows
open Builtin.Str (glued partsBetween occurrences tooLong strSub)
section
variable {X : Cx}
def Its (x : Str) : It := ⟨fun i _ => i < x.cps.size, fun i H v H' => H' = H ∧ ∃ c, x.cps[i]? = some c ∧ v = .str ⟨#[c]⟩, fun i _ => x.cps.size ≤ i⟩
theorem iss_at {h h' : Heap} {a : Addr} {ty : String} {x : Str} {t : Tok} {i : Nat} (y : h.IsStrIter a ty x t i) (k : ∀ o, h.get? a = some o → h'.get? a = some o) : h'.IsStrIter a ty x t i := let ⟨o, ho, r⟩ := y; ⟨o, k o ho, r⟩
theorem turn_str {P : Program} {w : World} {K : PySem.W.Frag} {tg : Expr} (x : Str) (t : Tok) (it : Addr) : Turn P w K tg (Its x) [it] it (fun i h => h.IsStrIter it "str_ascii_iterator" x t i) where
  mem := by simp
  obj := fun i h st b hb => by
    have e : b = it := by simpa using hb
    subst e
    obtain ⟨o, e, c, d⟩ := st
    exact ⟨o, e, fun v z => by rw [d] at z; cases z⟩
  keep := fun i h h' st k => iss_at st fun o e => k it (by simp) o e
  item := by
    intro X hP hw hK hc i pins s σ H E I hf st hg
    subst hP hw hK
    have hx : x.cps[i]? = some x.cps[i] := Array.getElem?_eq_getElem hg
    obtain ⟨f0, f1, f2, f3, f4, f5⟩ := hf it (by simp)
    refine wpAny_pyNext_ascii_item st hx fun h' st' sb => ?_
    have I1 : Inv X pins σ H { s with heap := h', toks := s.toks + 1 } := I.turned (t' := s.toks + 1) (fun b o hb e => (sb.2 b hb).trans e) f0 f1 f3 f4 f5
    obtain ⟨o, e, c, d⟩ := id st'
    exact ⟨_, rfl, go_of (s := { s with heap := h', toks := s.toks + 1 }) e c d (by decide) ⟨.str ⟨#[x.cps[i]]⟩, H, I1, ⟨_, rfl⟩, ⟨rfl, _, hx, rfl⟩, st', fun b hb => (hf b hb).1⟩⟩
  done := by
    intro X hP hw hK hc i pins s σ H E I hf st hg
    subst hP hw hK
    obtain ⟨f0, f1, f2, f3, f4, f5⟩ := hf it (by simp)
    exact wpAny_pyNext_ascii_end (I.ok.hd hc) st (Array.getElem?_eq_none hg) fun h' eb => ⟨rfl, I.turned (t' := s.toks) (fun b o hb e => eb b o hb e) f0 f1 f3 f4 f5⟩
  self := fun _ _ _ _ _ st h => wpAny_pyIter_striter_ascii st h
theorem pi_str {tg l : Expr} {tl : TE} (hl : PE X l tl) : PI X tg l (fun σ H R => tl σ H fun v H1 => ∃ x, v = .str x ∧ x.cps.all (· < 128) = true ∧ R (Its x) H1) := by
  intro pins s σ H R I h
  refine thn (hl pins s σ H _ I h) fun v s1 ⟨u, H1, I1, r1, q1⟩ => ?_
  obtain ⟨x, rfl, ha, q⟩ := q1
  obtain ⟨t, rfl⟩ := r1
  refine wpAny_pyIter_ascii ha ?_
  refine ⟨s1.heap.objs.size, [s1.heap.objs.size], _, _, H1, rfl, I1.kept (t' := s1.toks) fun b o e => Heap.get?_push_of_some _ e, turn_str x t _, ⟨_, Heap.get?_push_size _ rfl, rfl, rfl⟩, fun b hb => ?_, q⟩
  have e : b = s1.heap.objs.size := by simpa using hb
  subst e
  exact I1.fpOk (Nat.le_refl _) (I1.hok.fresh (Nat.le_refl _))
end
end L2
set_option Elab.async false
set_option linter.all false
set_option maxRecDepth 100000
set_option maxHeartbeats 4000000
namespace L2
open PySem PySem.Spec PyProof.Rows
section
variable {X : Cx}
end
end L2
set_option Elab.async false
set_option linter.all false
set_option maxRecDepth 100000
set_option maxHeartbeats 4000000
namespace HT
open PySem PySem.Spec PyProof.Rows L2
section
variable {prog : Program} {w : World} {A : Around} {E : Value → Shared → Prop} {s : Shared}
end
section
variable {prog : Program} {w : World} {A : Around} {E : Value → Shared → Prop} {s : Shared}
end
end HT
namespace L2
open PySem PySem.Spec PyProof.Rows
section
variable {X : Cx}
end
end L2
set_option Elab.async false
set_option linter.all false
set_option maxRecDepth 100000
set_option maxHeartbeats 4000000
namespace L2
open PySem PySem.Spec PyProof.Rows
open Builtin.Str (occurrences strSub subAt)
section
variable {X : Cx} {e : Expr} {te : TE} {lo hi st : Option Expr} {tl th ts : TO} {p2 pos : Pos}
def stepV {α : Type} (xs : List α) (lo hi st : Option Int) : List α := (sliceRange (sliceBounds lo hi st xs.length).1 (sliceBounds lo hi st xs.length).2.1 (sliceBounds lo hi st xs.length).2.2).filterMap (xs[·]?)
end
end L2
set_option Elab.async false
set_option linter.all false
set_option maxRecDepth 100000
set_option maxHeartbeats 4000000
namespace Srt
open PySem PyProof.Rows
section
variable {prog : Program} {w : World} {A : Around} {E : Value → Shared → Prop} {s : Shared}
def nk (p : Keyed) : Int := numOf p.1
def isN (p : Keyed) : Prop := ∃ n t, p.1 = .int n t
theorem isN.eq {p : Keyed} (h : isN p) : ∃ t, p.1 = .int (nk p) t := by
  obtain ⟨n, t, e⟩ := h
  exact ⟨t, by unfold nk; rw [e]; rfl⟩
theorem wpS_lt2 {st : SortSt} {x y : Keyed} {Q : Option Bool → SortSt → Prop} (hk : kindOf st = oneType') (hx : isN x) (hy : isN y) (h : Q (some (decide (nk x < nk y))) st) : wpS (model prog w) A E s (lt' x y) Q st := by
  obtain ⟨t, ex⟩ := hx.eq
  obtain ⟨u, ey⟩ := hy.eq
  rw [lt'_eq]
  refine wpS_bind (wpS_get ?_)
  rw [hk, keyLt'_oneType, ex, ey]
  exact wpS_bind (wpS_lift (wpAny_attempt (oneLt_int ⟨rfl, wpS_pure h⟩)))
theorem wpS_elem {st : SortSt} {xs : Array Keyed} {i : Nat} {p : Keyed} {Q : Keyed → SortSt → Prop} (hi : xs[i]? = some p) (h : Q p st) : wpS (model prog w) A E s (elem' xs i) Q st := by
  rw [elem'_eq, hi]
  exact wpS_pure h
def leap : Bool → Keyed → Array Keyed → Nat → Nat → Nat → StateT SortSt Sem (Option Nat) := sortPriv% PySem.Builtin.gallop
def past (left : Bool) (key : Keyed) (xs : Array Keyed) (b i : Nat) : StateT SortSt Sem (Option Bool) := do
  let p ← elem' xs (b + i)
  if left then lt' p key else return (← lt' key p).map (!·)
def pv (left : Bool) (key : Keyed) (xs : Array Keyed) (b i : Nat) : Bool := if left then decide (K xs (b + i) < nk key) else !decide (nk key < K xs (b + i))
theorem wpS_past {st : SortSt} {left : Bool} {key : Keyed} {xs : Array Keyed} {b i : Nat} {Q : Option Bool → SortSt → Prop} (hk : kindOf st = oneType') (hx : ∀ p ∈ xs.toList, isN p) (hy : isN key) (hi : b + i < xs.size) (h : Q (some (pv left key xs b i)) st) : wpS (model prog w) A E s (past left key xs b i) Q st := by
  have e : xs[b + i]? = some (xs[b + i]'hi) := Array.getElem?_eq_getElem hi
  have hp : isN xs[b + i] := hx _ (by simp)
  have ek : K xs (b + i) = nk xs[b + i] := by unfold K; rw [e]; rfl
  unfold past
  refine wpS_bind (wpS_elem e ?_)
  unfold pv at h
  rw [ek] at h
  cases left with
  | true =>
    simp only [if_true] at h ⊢
    exact wpS_lt2 hk hp hy h
  | false =>
    simp only [Bool.false_eq_true, if_false] at h ⊢
    exact wpS_bind (wpS_lt2 hk hy hp (wpS_pure h))
theorem leap_do (left : Bool) (key : Keyed) (xs : Array Keyed) (b n hint : Nat) : leap left key xs b n hint = (do
  let mut la := 0
  let mut of := 1
  let mut l := 0
  let mut h := 0
  let some r ← past left key xs b hint | return none
  if r then
    let mx := n - hint
    for _ in [0:n] do
      if of ≥ mx then break
      let some m ← past left key xs b (hint + of) | return none
      if !m then break
      la := of
      of := 2 * of + 1
    l := hint + la + 1
    h := hint + min of mx
  else
    let mx := hint + 1
    for _ in [0:n] do
      if of ≥ mx then break
      let some m ← past left key xs b (hint - of) | return none
      if m then break
      la := of
      of := 2 * of + 1
    l := hint + 1 - min of mx
    h := hint - la
  for _ in [0:n] do
    if l ≥ h then break
    let mid := l + (h - l) / 2
    let some m ← past left key xs b mid | return none
    if m then l := mid + 1 else h := mid
  return some h) := rfl
def half (left : Bool) (key : Keyed) (xs : Array Keyed) (b n l0 h0 : Nat) : StateT SortSt Sem (Option Nat) := do
  let mut l := l0
  let mut h := h0
  for _ in [0:n] do
    if l ≥ h then break
    let mid := l + (h - l) / 2
    let some m ← past left key xs b mid | return none
    if m then l := mid + 1 else h := mid
  return some h
structure Ask (st : SortSt) (key : Keyed) (xs : Array Keyed) (b n : Nat) : Prop where
  k : kindOf st = oneType'
  x : ∀ p ∈ xs.toList, isN p
  y : isN key
  s : ∀ i j, i ≤ j → j < n → K xs (b + i) ≤ K xs (b + j)
  z : b + n ≤ xs.size
variable {st : SortSt} {left : Bool} {key : Keyed} {xs : Array Keyed} {b n hint : Nat}
theorem Ask.down (h : Ask st key xs b n) {i j : Nat} (hij : i ≤ j) (hj : j < n) (hp : pv left key xs b j = true) : pv left key xs b i = true := by
  have := h.s i j hij hj
  unfold pv at hp ⊢
  cases left with
  | true => simp only [if_true, decide_eq_true_eq] at hp ⊢; omega
  | false => simp only [Bool.false_eq_true, if_false, Bool.not_eq_true', decide_eq_false_iff_not] at hp ⊢; omega
theorem Ask.up (h : Ask st key xs b n) {i j : Nat} (hij : i ≤ j) (hj : j < n) (hp : pv left key xs b i = false) : pv left key xs b j = false := by
  cases hq : pv left key xs b j with
  | false => rfl
  | true => rw [h.down hij hj hq] at hp; cases hp
def Cut (left : Bool) (key : Keyed) (xs : Array Keyed) (b n k : Nat) : Prop := k ≤ n ∧ (∀ i, i < k → pv left key xs b i = true) ∧ ∀ i, k ≤ i → i < n → pv left key xs b i = false
theorem wpS_half {l h : Nat} {Q : Option Nat → SortSt → Prop} (a : Ask st key xs b n) (h1 : l ≤ h) (h2 : h ≤ n) (h3 : ∀ i, i < l → pv left key xs b i = true) (h4 : ∀ i, h ≤ i → i < n → pv left key xs b i = false)
    (hQ : ∀ k, Cut left key xs b n k → Q (some k) st) : wpS (model prog w) A E s (half left key xs b n l h) Q st := by
  unfold half
  refine wpS_bind (wpS_mono (wpS_forRange (I := fun x c st' => st' = st ∧ ∃ l h, c = (none, l, h) ∧ l ≤ h ∧ h ≤ n ∧ h - l ≤ n - x ∧ (∀ i, i < l → pv left key xs b i = true) ∧ ∀ i, h ≤ i → i < n → pv left key xs b i = false)
    (Q := fun c st' => st' = st ∧ ∃ k, c = (none, k, k) ∧ Cut left key xs b n k) ?step ?fin ⟨rfl, l, h, rfl, h1, h2, by omega, h3, h4⟩) ?post)
  case fin =>
    rintro c st' ⟨rfl, l, h, rfl, a1, a2, a3, a4, a5⟩
    have : l = h := by omega
    subst this
    exact ⟨rfl, l, rfl, a2, a4, a5⟩
  case step =>
    rintro x c st' _ hx ⟨rfl, l, h, rfl, a1, a2, a3, a4, a5⟩
    dsimp only
    by_cases hge : l ≥ h
    · rw [if_pos hge]
      have : l = h := by omega
      subst this
      exact wpS_pure ⟨rfl, l, rfl, a2, a4, a5⟩
    · rw [if_neg hge]
      refine wpS_bind (wpS_past a.k a.x a.y (by have := a.z; omega) ?_)
      dsimp only
      cases hp : pv left key xs b (l + (h - l) / 2) with
      | true =>
        simp only [if_true]
        exact wpS_pure ⟨rfl, _, _, rfl, by omega, by omega, by omega, fun i hi => a.down (by omega) (by omega) hp, a5⟩
      | false =>
        simp only [Bool.false_eq_true, if_false]
        exact wpS_pure ⟨rfl, _, _, rfl, by omega, by omega, by omega, a4, fun i hi hn => a.up hi hn hp⟩
  case post =>
    rintro c st' ⟨rfl, k, rfl, hc⟩
    exact wpS_pure (hQ k hc)
theorem wpS_leap {Q : Option Nat → SortSt → Prop} (a : Ask st key xs b n) (hh : hint < n) (hQ : ∀ k, Cut left key xs b n k → Q (some k) st) : wpS (model prog w) A E s (leap left key xs b n hint) Q st := by
  have hz := a.z
  rw [leap_do]
  dsimp only
  refine wpS_bind (wpS_past a.k a.x a.y (by omega) ?_)
  dsimp only
  cases hr : pv left key xs b hint with
  | true =>
    simp only [if_true]
    refine wpS_bind (wpS_mono (wpS_forRange (I := fun x c st' => st' = st ∧ ∃ la of, c = (none, la, of) ∧ la < of ∧ x + 1 ≤ of ∧ hint + la < n ∧ pv left key xs b (hint + la) = true)
      (Q := fun c st' => st' = st ∧ ∃ la of, c = (none, la, of) ∧ la < of ∧ hint + la < n ∧ pv left key xs b (hint + la) = true ∧ (n - hint ≤ of ∨ pv left key xs b (hint + of) = false)) ?step ?fin ⟨rfl, 0, 1, rfl, by omega, by omega, by omega, hr⟩) ?post)
    case fin =>
      rintro c st' ⟨rfl, la, of, rfl, a1, a2, a3, a4⟩
      exact ⟨rfl, la, of, rfl, a1, a3, a4, .inl (by omega)⟩
    case step =>
      rintro x c st' _ hx ⟨rfl, la, of, rfl, a1, a2, a3, a4⟩
      dsimp only
      by_cases hge : of ≥ n - hint
      · rw [if_pos hge]
        exact wpS_pure ⟨rfl, la, of, rfl, a1, a3, a4, .inl hge⟩
      · rw [if_neg hge]
        refine wpS_bind (wpS_past a.k a.x a.y (by omega) ?_)
        dsimp only
        cases hp : pv left key xs b (hint + of) with
        | true =>
          simp only [Bool.not_true, Bool.false_eq_true, if_false]
          exact wpS_pure ⟨rfl, _, _, rfl, by omega, by omega, by omega, hp⟩
        | false =>
          simp only [Bool.not_false, if_true]
          exact wpS_pure ⟨rfl, la, of, rfl, a1, a3, a4, .inr hp⟩
    case post =>
      rintro c st' ⟨rfl, la, of, rfl, a1, a3, a4, a5⟩
      refine wpS_half (h := hint + min of (n - hint)) (l := hint + la + 1) a (by omega) (by omega) (fun i hi => a.down (by omega) a3 a4) (fun i hi hn => ?_) hQ
      rcases a5 with q | q
      · omega
      · exact a.up (by omega) hn q
  | false =>
    simp only [Bool.false_eq_true, if_false]
    refine wpS_bind (wpS_mono (wpS_forRange (I := fun x c st' => st' = st ∧ ∃ la of, c = (none, la, of) ∧ la < of ∧ x + 1 ≤ of ∧ la ≤ hint ∧ pv left key xs b (hint - la) = false)
      (Q := fun c st' => st' = st ∧ ∃ la of, c = (none, la, of) ∧ la < of ∧ la ≤ hint ∧ pv left key xs b (hint - la) = false ∧ (hint + 1 ≤ of ∨ (of ≤ hint ∧ pv left key xs b (hint - of) = true))) ?step ?fin ⟨rfl, 0, 1, rfl, by omega, by omega, by omega, hr⟩) ?post)
    case fin =>
      rintro c st' ⟨rfl, la, of, rfl, a1, a2, a3, a4⟩
      exact ⟨rfl, la, of, rfl, a1, a3, a4, .inl (by omega)⟩
    case step =>
      rintro x c st' _ hx ⟨rfl, la, of, rfl, a1, a2, a3, a4⟩
      dsimp only
      by_cases hge : of ≥ hint + 1
      · rw [if_pos hge]
        exact wpS_pure ⟨rfl, la, of, rfl, a1, a3, a4, .inl hge⟩
      · rw [if_neg hge]
        refine wpS_bind (wpS_past a.k a.x a.y (by omega) ?_)
        dsimp only
        cases hp : pv left key xs b (hint - of) with
        | true =>
          simp only [if_true]
          exact wpS_pure ⟨rfl, la, of, rfl, a1, a3, a4, .inr ⟨by omega, hp⟩⟩
        | false =>
          simp only [Bool.false_eq_true, if_false]
          exact wpS_pure ⟨rfl, _, _, rfl, by omega, by omega, by omega, hp⟩
    case post =>
      rintro c st' ⟨rfl, la, of, rfl, a1, a3, a4, a5⟩
      refine wpS_half (h := hint - la) (l := hint + 1 - min of (hint + 1)) a (by omega) (by omega) (fun i hi => ?_) (fun i hi hn => a.up hi hn a4) hQ
      rcases a5 with q | ⟨q1, q2⟩
      · omega
      · exact a.down (by omega) (by omega) q2
end
end Srt
set_option Elab.async false
set_option linter.all false
set_option maxRecDepth 100000
set_option maxHeartbeats 4000000
namespace Srt
open PySem PyProof.Rows
def mLo : Array Keyed → Array Keyed → StateT SortSt Sem (Array Keyed) := sortPriv% PySem.Builtin.mergeLo
def setG : Nat → StateT SortSt Sem Unit := sortPriv% PySem.Builtin.setMinGallop
theorem setG_eq (g : Nat) : setG g = modify fun s => SortSt.mk' (kindOf s) (arrOf s) (pendingOf s) g (failedOf s) := rfl
theorem mLo_do (x y : Array Keyed) : ∃ u : StateT SortSt Sem (Array Keyed), mLo x y = (do
  rule "list.sort.merge-lo"
  let tot := x.size + y.size
  let fin (o : Array Keyed) (i j : Nat) := o ++ x.extract i x.size ++ y.extract j y.size
  let las (o : Array Keyed) (i j : Nat) := o ++ y.extract j y.size ++ x.extract i x.size
  let mut o : Array Keyed := #[← elem' y 0]
  let mut i := 0
  let mut j := 1
  if j == y.size then return fin o i j
  if i + 1 == x.size then return las o i j
  let mut g := gallopOf (← get)
  for _ in [0:tot] do
    let mut ca := 0
    let mut cb := 0
    for _ in [0:tot] do
      let some bw ← lt' (← elem' y j) (← elem' x i) | return fin o i j
      if bw then
        o := o.push (← elem' y j); j := j + 1; cb := cb + 1; ca := 0
        if j == y.size then return fin o i j
        if cb ≥ g then break
      else
        o := o.push (← elem' x i); i := i + 1; ca := ca + 1; cb := 0
        if i + 1 == x.size then return las o i j
        if ca ≥ g then break
    rule "list.sort.gallop"
    g := g + 1
    for _ in [0:tot] do
      if g > 1 then g := g - 1
      setG g
      let some k ← leap false (← elem' y j) x i (x.size - i) 0 | return fin o i j
      ca := k
      if k > 0 then
        o := o ++ x.extract i (i + k); i := i + k
        if i + 1 == x.size then return las o i j
        if i == x.size then return fin o i j
      o := o.push (← elem' y j); j := j + 1
      if j == y.size then return fin o i j
      let some k ← leap true (← elem' x i) y j (y.size - j) 0 | return fin o i j
      cb := k
      if k > 0 then
        o := o ++ y.extract j (j + k); j := j + k
        if j == y.size then return fin o i j
      o := o.push (← elem' x i); i := i + 1
      if i + 1 == x.size then return las o i j
      if ca < 7 && cb < 7 then break
    g := g + 1
    setG g
  u) := ⟨_, rfl⟩
def Inc (l : List Keyed) : Prop := l.Pairwise fun p q => nk p ≤ nk q
structure Mg (X Y : List Keyed) (i j : Nat) (O : List Keyed) : Prop where
  perm : O.Perm (X.take i ++ Y.take j)
  inc : Inc O
  le : ∀ p ∈ O, ∀ q, (q ∈ X.drop i ∨ q ∈ Y.drop j) → nk p ≤ nk q
theorem Inc.drop {l : List Keyed} (h : Inc l) (k : Nat) : Inc (l.drop k) := List.Pairwise.sublist (List.drop_sublist _ _) h
theorem Inc.take {l : List Keyed} (h : Inc l) (k : Nat) : Inc (l.take k) := List.Pairwise.sublist (List.take_sublist _ _) h
theorem Inc.split {l : List Keyed} (h : Inc l) (k : Nat) : ∀ p ∈ l.take k, ∀ q ∈ l.drop k, nk p ≤ nk q := by
  have : Inc (l.take k ++ l.drop k) := by rw [List.take_append_drop]; exact h
  exact (List.pairwise_append.mp this).2.2
theorem drop_mem {l : List Keyed} {i k : Nat} {q : Keyed} (h : q ∈ l.drop (i + k)) : q ∈ l.drop i := by
  rw [← List.drop_drop] at h
  exact List.mem_of_mem_drop h
theorem Mg.stepX {X Y O : List Keyed} {i j k : Nat} (h : Mg X Y i j O) (hX : Inc X) (hc : ∀ p ∈ (X.drop i).take k, ∀ q ∈ Y.drop j, nk p ≤ nk q) : Mg X Y (i + k) j (O ++ (X.drop i).take k) := by
  refine ⟨?_, ?_, fun p hp q hq => ?_⟩
  · rw [List.take_add]
    refine (h.perm.append_right _).trans ?_
    rw [List.append_assoc, List.append_assoc]
    exact List.Perm.append_left _ List.perm_append_comm
  · refine List.pairwise_append.mpr ⟨h.inc, (hX.drop i).take k, fun p hp q hq => h.le p hp q (.inl (List.mem_of_mem_take hq))⟩
  · rcases List.mem_append.mp hp with hp | hp
    · rcases hq with hq | hq
      · exact h.le p hp q (.inl (drop_mem hq))
      · exact h.le p hp q (.inr hq)
    · rcases hq with hq | hq
      · rw [← List.drop_drop] at hq
        exact (hX.drop i).split k p hp q hq
      · exact hc p hp q hq
theorem Mg.stepY {X Y O : List Keyed} {i j k : Nat} (h : Mg X Y i j O) (hY : Inc Y) (hc : ∀ p ∈ (Y.drop j).take k, ∀ q ∈ X.drop i, nk p ≤ nk q) : Mg X Y i (j + k) (O ++ (Y.drop j).take k) := by
  refine ⟨?_, ?_, fun p hp q hq => ?_⟩
  · rw [List.take_add, ← List.append_assoc]
    exact h.perm.append_right _
  · refine List.pairwise_append.mpr ⟨h.inc, (hY.drop j).take k, fun p hp q hq => h.le p hp q (.inr (List.mem_of_mem_take hq))⟩
  · rcases List.mem_append.mp hp with hp | hp
    · rcases hq with hq | hq
      · exact h.le p hp q (.inl hq)
      · exact h.le p hp q (.inr (drop_mem hq))
    · rcases hq with hq | hq
      · exact hc p hp q hq
      · rw [← List.drop_drop] at hq
        exact (hY.drop j).split k p hp q hq
def Out (X Y O : List Keyed) : Prop := O.Perm (X ++ Y) ∧ Inc O
theorem Mg.endX {X Y O : List Keyed} {i j : Nat} (h : Mg X Y i j O) (hX : Inc X) (hj : Y.length ≤ j) : Out X Y (O ++ X.drop i) := by
  have ht : Y.take j = Y := List.take_of_length_le hj
  refine ⟨?_, List.pairwise_append.mpr ⟨h.inc, hX.drop i, fun p hp q hq => h.le p hp q (.inl hq)⟩⟩
  have := h.perm
  rw [ht] at this
  refine (this.append_right _).trans ?_
  have e : X ++ Y = X.take i ++ (X.drop i ++ Y) := by rw [← List.append_assoc, List.take_append_drop]
  rw [List.append_assoc, e]
  exact List.Perm.append_left _ List.perm_append_comm
theorem Mg.endY {X Y O : List Keyed} {i j : Nat} (h : Mg X Y i j O) (hY : Inc Y) (hi : X.length ≤ i) : Out X Y (O ++ Y.drop j) := by
  have ht : X.take i = X := List.take_of_length_le hi
  refine ⟨?_, List.pairwise_append.mpr ⟨h.inc, hY.drop j, fun p hp q hq => h.le p hp q (.inr hq)⟩⟩
  have := h.perm
  rw [ht] at this
  refine (this.append_right _).trans ?_
  rw [List.append_assoc, List.take_append_drop]
theorem Mg.endL {X Y O : List Keyed} {i j : Nat} (h : Mg X Y i j O) (hX : Inc X) (hY : Inc Y) (hi : i + 1 = X.length) (hl : ∀ p ∈ X.drop i, ∀ q ∈ Y, nk q ≤ nk p) : Out X Y (O ++ Y.drop j ++ X.drop i) := by
  refine ⟨?_, ?_⟩
  · refine ((h.perm.append_right _).append_right _).trans ?_
    rw [List.append_assoc (X.take i), List.take_append_drop]
    have e : X ++ Y = X.take i ++ (X.drop i ++ Y) := by rw [← List.append_assoc, List.take_append_drop]
    rw [List.append_assoc, e]
    exact List.Perm.append_left _ List.perm_append_comm
  · refine List.pairwise_append.mpr ⟨List.pairwise_append.mpr ⟨h.inc, hY.drop j, fun p hp q hq => h.le p hp q (.inr hq)⟩, hX.drop i, fun p hp q hq => ?_⟩
    rcases List.mem_append.mp hp with hp | hp
    · exact h.le p hp q (.inl hq)
    · exact hl q hq p (List.mem_of_mem_drop hp)
theorem Mg.start {X Y : List Keyed} : Mg X Y 0 0 [] := ⟨by simp, List.Pairwise.nil, fun p hp => nomatch hp⟩
theorem one_drop {x : Array Keyed} {i : Nat} (h : i < x.size) : (x.toList.drop i).take 1 = [x[i]] := by
  have h' : i < x.toList.length := by simpa using h
  rw [List.drop_eq_getElem_cons h']; simp
theorem ext_list (x : Array Keyed) (i k : Nat) : (x.extract i (i + k)).toList = (x.toList.drop i).take k := by
  simp
theorem ext_end (x : Array Keyed) (i : Nat) : (x.extract i x.size).toList = x.toList.drop i := by
  rw [Array.toList_extract, List.extract_eq_take_drop, List.take_of_length_le]
  simp
theorem K_nk {x : Array Keyed} {i : Nat} (h : i < x.size) : K x i = nk x[i] := by
  unfold K
  rw [Array.getElem?_eq_getElem h]; rfl
theorem inc_K {x : Array Keyed} (h : Inc x.toList) {i j : Nat} (hij : i ≤ j) (hj : j < x.size) : K x i ≤ K x j := by
  rw [K_nk (by omega), K_nk hj]
  by_cases e : i = j
  · subst e; exact Int.le_refl _
  · have := List.pairwise_iff_getElem.mp h i j (by simp; omega) (by simpa using hj) (by omega)
    simpa using this
structure Keep (st st' : SortSt) : Prop where
  k : kindOf st' = kindOf st
  a : arrOf st' = arrOf st
  p : pendingOf st' = pendingOf st
  f : failedOf st' = failedOf st
theorem Keep.refl (st : SortSt) : Keep st st := ⟨rfl, rfl, rfl, rfl⟩
structure Mr (x y : Array Keyed) : Prop where
  nx : ∀ p ∈ x.toList, isN p
  ny : ∀ p ∈ y.toList, isN p
  ix : Inc x.toList
  iy : Inc y.toList
  x0 : 0 < x.size
  y0 : 0 < y.size
  fst : ∀ p ∈ y.toList.take 1, ∀ q ∈ x.toList, nk p ≤ nk q
  lst : ∀ p ∈ x.toList.drop (x.size - 1), ∀ q ∈ y.toList, nk q ≤ nk p
section
variable {prog : Program} {w : World} {A : Around} {E : Value → Shared → Prop} {s : Shared} {st : SortSt} {x y : Array Keyed}
theorem Mr.askX (h : Mr x y) (hk : kindOf st = oneType') {key : Keyed} (hy : isN key) {i : Nat} (hi : i ≤ x.size) : Ask st key x i (x.size - i) :=
  ⟨hk, h.nx, hy, fun a b hab hb => inc_K h.ix (by omega) (by omega), by omega⟩
theorem Mr.askY (h : Mr x y) (hk : kindOf st = oneType') {key : Keyed} (hy : isN key) {i : Nat} (hi : i ≤ y.size) : Ask st key y i (y.size - i) :=
  ⟨hk, h.ny, hy, fun a b hab hb => inc_K h.iy (by omega) (by omega), by omega⟩
theorem wpS_setG {g : Nat} {Q : Unit → SortSt → Prop} (h : ∀ st', Keep st st' → Q () st') : wpS (model prog w) A E s (setG g) Q st := by
  rw [setG_eq]
  exact wpS_modify (h _ ⟨rfl, rfl, rfl, rfl⟩)
theorem Keep.trans {a b c : SortSt} (h : Keep a b) (k : Keep b c) : Keep a c := ⟨k.k.trans h.k, k.a.trans h.a, k.p.trans h.p, k.f.trans h.f⟩
theorem mem_drop {x : Array Keyed} {i : Nat} {q : Keyed} (h : q ∈ x.toList.drop i) : ∃ t, ∃ (h : i + t < x.size), q = x[i + t] := by
  obtain ⟨t, ht, e⟩ := List.getElem_of_mem h
  rw [List.length_drop, Array.length_toList] at ht
  exact ⟨t, by omega, by rw [← e, List.getElem_drop]; simp⟩
theorem mem_take {x : Array Keyed} {i k : Nat} {q : Keyed} (h : q ∈ (x.toList.drop i).take k) : ∃ t, t < k ∧ ∃ (h : i + t < x.size), q = x[i + t] := by
  obtain ⟨t, ht, e⟩ := List.getElem_of_mem h
  rw [List.length_take, List.length_drop, Array.length_toList] at ht
  exact ⟨t, by omega, by omega, by rw [← e, List.getElem_take, List.getElem_drop]; simp⟩
theorem wpS_mLo {Q : Array Keyed → SortSt → Prop} (hk : kindOf st = oneType') (h : Mr x y) (hQ : ∀ o st', Keep st st' → Out x.toList y.toList o.toList → Q o st') : wpS (model prog w) A E s (mLo x y) Q st := by
  obtain ⟨u, e⟩ := mLo_do x y
  rw [e]
  refine wpS_bind (wpS_lift (wpAny_rule ⟨rfl, ?_⟩))
  have hx0 := h.x0
  have hy0 := h.y0
  refine wpS_bind (wpS_elem (Array.getElem?_eq_getElem hy0) ?_)
  dsimp only
  have M1 : Mg x.toList y.toList 0 1 [y[0]] := by
    have := Mg.start.stepY (X := x.toList) (k := 1) h.iy (fun p hp q hq => h.fst p hp q hq)
    rw [one_drop hy0] at this
    exact this
  have eX : ∀ {o : Array Keyed} {i j : Nat}, Mg x.toList y.toList i j o.toList → j = y.size → Out x.toList y.toList (o ++ x.extract i x.size ++ y.extract j y.size).toList := fun {o i j} m hj => by
    have := m.endX h.ix (by simp; omega)
    rw [Array.toList_append, Array.toList_append, ext_end, ext_end, hj, List.drop_of_length_le (l := y.toList) (by simp), List.append_nil]
    exact this
  have eY : ∀ {o : Array Keyed} {i j : Nat}, Mg x.toList y.toList i j o.toList → i = x.size → Out x.toList y.toList (o ++ x.extract i x.size ++ y.extract j y.size).toList := fun {o i j} m hi => by
    have := m.endY h.iy (by simp; omega)
    rw [Array.toList_append, Array.toList_append, ext_end, ext_end, hi, List.drop_of_length_le (l := x.toList) (by simp), List.append_nil]
    exact this
  have eL : ∀ {o : Array Keyed} {i j : Nat}, Mg x.toList y.toList i j o.toList → i + 1 = x.size → Out x.toList y.toList (o ++ y.extract j y.size ++ x.extract i x.size).toList := fun {o i j} m hi => by
    have := m.endL h.ix h.iy (by simpa using hi) (by rw [show i = x.size - 1 by omega]; exact h.lst)
    rw [Array.toList_append, Array.toList_append, ext_end, ext_end]
    exact this
  by_cases h1 : 1 = y.size
  · rw [if_pos (by simpa using h1)]
    exact wpS_pure (hQ _ _ (Keep.refl st) (eX M1 h1))
  rw [if_neg (by simpa using h1)]
  by_cases h2 : 0 + 1 = x.size
  · rw [if_pos (by simpa using h2)]
    exact wpS_pure (hQ _ _ (Keep.refl st) (eL M1 h2))
  rw [if_neg (by simpa using h2)]
  refine wpS_bind (wpS_get ?_)
  refine wpS_bind (wpS_mono (wpS_forRange (I := fun t c st' => Keep st st' ∧ ∃ o i j g, c = (none, o, i, j, g) ∧ Mg x.toList y.toList i j o.toList ∧ i + 1 < x.size ∧ j < y.size ∧ t + 1 ≤ i + j)
    (Q := fun c st' => Keep st st' ∧ ∃ r, c.1 = some r ∧ Out x.toList y.toList r.toList) ?step ?fin ⟨Keep.refl st, _, _, _, _, rfl, M1, by omega, by omega, by omega⟩) ?post)
  case fin =>
    rintro c st' ⟨_, o, i, j, g, rfl, _, a1, a2, a3⟩
    omega
  case post =>
    rintro ⟨c1, c2⟩ st' ⟨kp, r, e, ho⟩
    cases e
    exact wpS_pure (hQ r st' kp ho)
  case step =>
    rintro t c st' _ ht ⟨kp, o, i, j, g, rfl, m, a1, a2, a3⟩
    dsimp only
    have hk' : kindOf st' = oneType' := kp.k.trans hk
    refine wpS_bind (wpS_mono (wpS_forRange (I := fun t2 c st2 => st2 = st' ∧ ∃ o i' j' ca cb, c = (none, o, i', j', ca, cb) ∧ Mg x.toList y.toList i' j' o.toList ∧ i' + 1 < x.size ∧ j' < y.size ∧ i + j + t2 ≤ i' + j')
      (Q := fun c st2 => st2 = st' ∧ ((∃ r c2, c = (some r, c2) ∧ Out x.toList y.toList r.toList) ∨ ∃ o i' j' ca cb, c = (none, o, i', j', ca, cb) ∧ Mg x.toList y.toList i' j' o.toList ∧ i' + 1 < x.size ∧ j' < y.size ∧ i + j + 1 ≤ i' + j')) ?step1 ?fin1 ⟨rfl, _, _, _, _, _, rfl, m, a1, a2, by omega⟩) ?post1)
    case fin1 =>
      rintro c st2 ⟨rfl, o, i', j', ca, cb, rfl, m, b1, b2, b3⟩
      exact ⟨rfl, .inr ⟨o, i', j', ca, cb, rfl, m, b1, b2, by omega⟩⟩
    case step1 =>
      rintro t2 c st2 _ ht2 ⟨rfl, o, i', j', ca, cb, rfl, m, b1, b2, b3⟩
      dsimp only
      refine wpS_bind (wpS_elem (Array.getElem?_eq_getElem b2) (wpS_bind (wpS_elem (Array.getElem?_eq_getElem (show i' < x.size by omega)) (wpS_bind (wpS_lt2 hk' (h.ny _ (by simp)) (h.nx _ (by simp)) ?_)))))
      dsimp only
      by_cases hw : nk y[j'] < nk x[i']
      · simp only [hw, decide_true, if_true]
        refine wpS_bind (wpS_elem (Array.getElem?_eq_getElem b2) ?_)
        have m2 : Mg x.toList y.toList i' (j' + 1) (o.push y[j']).toList := by
          have := m.stepY (k := 1) h.iy (fun p hp q hq => by
            rw [one_drop b2] at hp
            rw [List.mem_singleton.mp hp]
            obtain ⟨t, ht, rfl⟩ := mem_drop hq
            have := inc_K h.ix (show i' ≤ i' + t by omega) ht
            rw [K_nk (by omega), K_nk ht] at this
            omega)
          rw [one_drop b2] at this
          rw [Array.toList_push]; exact this
        by_cases q1 : j' + 1 = y.size
        · rw [if_pos (by simpa using q1)]
          exact wpS_pure ⟨rfl, .inl ⟨_, _, rfl, eX m2 q1⟩⟩
        · rw [if_neg (by simpa using q1)]
          split
          · exact wpS_pure ⟨rfl, .inr ⟨_, _, _, _, _, rfl, m2, b1, by omega, by omega⟩⟩
          · exact wpS_pure ⟨rfl, _, _, _, _, _, rfl, m2, b1, by omega, by omega⟩
      · simp only [hw, decide_false, Bool.false_eq_true, if_false]
        refine wpS_bind (wpS_elem (Array.getElem?_eq_getElem (show i' < x.size by omega)) ?_)
        have m2 : Mg x.toList y.toList (i' + 1) j' (o.push x[i']).toList := by
          have := m.stepX (k := 1) h.ix (fun p hp q hq => by
            rw [one_drop (show i' < x.size by omega)] at hp
            rw [List.mem_singleton.mp hp]
            obtain ⟨t, ht, rfl⟩ := mem_drop hq
            have := inc_K h.iy (show j' ≤ j' + t by omega) ht
            rw [K_nk (by omega), K_nk ht] at this
            omega)
          rw [one_drop (show i' < x.size by omega)] at this
          rw [Array.toList_push]; exact this
        by_cases q1 : i' + 1 + 1 = x.size
        · rw [if_pos (by simpa using q1)]
          exact wpS_pure ⟨rfl, .inl ⟨_, _, rfl, eL m2 q1⟩⟩
        · rw [if_neg (by simpa using q1)]
          split
          · exact wpS_pure ⟨rfl, .inr ⟨_, _, _, _, _, rfl, m2, by omega, b2, by omega⟩⟩
          · exact wpS_pure ⟨rfl, _, _, _, _, _, rfl, m2, by omega, b2, by omega⟩
    case post1 =>
      rintro c st2 ⟨rfl, ⟨r, c2, rfl, ho⟩ | ⟨o, i', j', ca, cb, rfl, m, b1, b2, b3⟩⟩
      · exact wpS_pure ⟨kp, r, rfl, ho⟩
      · dsimp only
        refine wpS_bind (wpS_lift (wpAny_rule ⟨rfl, ?_⟩))
        refine wpS_bind (wpS_mono (wpS_forRange (I := fun t3 c st3 => Keep st st3 ∧ ∃ o i' j' g ca cb, c = (none, o, i', j', g, ca, cb) ∧ Mg x.toList y.toList i' j' o.toList ∧ i' + 1 < x.size ∧ j' < y.size ∧ i + j + 1 ≤ i' + j')
          (Q := fun c st3 => Keep st st3 ∧ ((∃ r c2, c = (some r, c2) ∧ Out x.toList y.toList r.toList) ∨ ∃ o i' j' g ca cb, c = (none, o, i', j', g, ca, cb) ∧ Mg x.toList y.toList i' j' o.toList ∧ i' + 1 < x.size ∧ j' < y.size ∧ i + j + 1 ≤ i' + j')) ?step2 ?fin2 ⟨kp, _, _, _, _, _, _, rfl, m, b1, b2, b3⟩) ?post2)
        case fin2 =>
          rintro c st3 ⟨kp3, o, i', j', g, ca, cb, rfl, m, b1, b2, b3⟩
          exact ⟨kp3, .inr ⟨o, i', j', g, ca, cb, rfl, m, b1, b2, b3⟩⟩
        case post2 =>
          rintro c st3 ⟨kp3, ⟨r, c2, rfl, ho⟩ | ⟨o, i', j', g, ca, cb, rfl, m, b1, b2, b3⟩⟩
          · exact wpS_pure ⟨kp3, r, rfl, ho⟩
          · dsimp only
            refine wpS_bind (wpS_setG fun st4 kp4 => wpS_pure ⟨kp3.trans kp4, _, _, _, _, rfl, m, b1, b2, by omega⟩)
        case step2 =>
          clear m b1 b2 b3 ca cb
          rintro t3 c st3 _ ht3 ⟨kp3, o, i', j', g, ca, cb, rfl, m, b1, b2, b3⟩
          dsimp only
          by_cases hg : g > 1
          rw [if_pos hg]
          rotate_left
          rw [if_neg hg]
          all_goals
            refine wpS_bind (wpS_setG fun st4 kp4' => ?_)
            have kp4 := kp3.trans kp4'
            have hk4 : kindOf st4 = oneType' := kp4.k.trans hk
            refine wpS_bind (wpS_elem (Array.getElem?_eq_getElem b2) ?_)
            refine wpS_bind (wpS_leap (h.askX hk4 (h.ny _ (by simp)) (by omega)) (by omega) fun k hc => ?_)
            dsimp only
            obtain ⟨c1, c2, c3⟩ := hc
            have mk : Mg x.toList y.toList (i' + k) j' (o ++ x.extract i' (i' + k)).toList := by
              have := m.stepX (k := k) h.ix (fun p hp q hq => by
                obtain ⟨t, ht, hts, rfl⟩ := mem_take hp
                obtain ⟨v, hv, rfl⟩ := mem_drop hq
                have h1 := c2 t ht
                have h2 := inc_K h.iy (show j' ≤ j' + v by omega) hv
                rw [K_nk b2, K_nk hv] at h2
                unfold pv at h1
                simp only [Bool.false_eq_true, if_false, Bool.not_eq_true', decide_eq_false_iff_not] at h1
                rw [K_nk hts] at h1
                omega)
              rw [Array.toList_append, ext_list]; exact this
            have cy : ∀ p ∈ (y.toList.drop j').take 1, ∀ q ∈ x.toList.drop (i' + k), nk p ≤ nk q := fun p hp q hq => by
              rw [one_drop b2] at hp
              rw [List.mem_singleton.mp hp]
              obtain ⟨v, hv, rfl⟩ := mem_drop hq
              have h1 := c3 (k + v) (by omega) (by omega)
              unfold pv at h1
              simp only [Bool.false_eq_true, if_false, Bool.not_eq_false', decide_eq_true_eq] at h1
              rw [← Nat.add_assoc, K_nk hv] at h1
              omega
            by_cases k0 : k > 0
            rw [if_pos k0]
            by_cases q1 : i' + k + 1 = x.size
            · rw [if_pos (by simpa using q1)]
              exact wpS_pure ⟨kp4, .inl ⟨_, _, rfl, eL mk q1⟩⟩
            rw [if_neg (by simpa using q1)]
            by_cases q2 : i' + k = x.size
            · rw [if_pos (by simpa using q2)]
              exact wpS_pure ⟨kp4, .inl ⟨_, _, rfl, eY mk q2⟩⟩
            rw [if_neg (by simpa using q2)]
            have n2 : i' + k + 1 < x.size := by omega
            have p2 : i + j + 1 ≤ i' + k + j' := by omega
            generalize o ++ x.extract i' (i' + k) = o2 at mk ⊢
            generalize i' + k = i2 at mk cy n2 p2 ⊢
            rotate_left
            rw [if_neg k0]
            have k00 : k = 0 := by omega
            subst k00
            rw [Nat.add_zero] at cy
            clear mk
            have mk := m
            have n2 := b1
            have p2 := b3
            clear m c1 c2 c3
            generalize i' = i2 at mk cy n2 p2 ⊢
            generalize o = o2 at mk ⊢
            all_goals
              refine wpS_bind (wpS_elem (Array.getElem?_eq_getElem b2) ?_)
              have m3 := mk.stepY (k := 1) h.iy cy
              rw [one_drop b2, ← Array.toList_push] at m3
              by_cases q3 : j' + 1 = y.size
              · rw [if_pos (by simpa using q3)]
                exact wpS_pure ⟨kp4, .inl ⟨_, _, rfl, eX m3 q3⟩⟩
              rw [if_neg (by simpa using q3)]
              have hi2 : i2 < x.size := by omega
              refine wpS_bind (wpS_elem (Array.getElem?_eq_getElem hi2) ?_)
              refine wpS_bind (wpS_leap (h.askY hk4 (h.nx _ (by simp)) (by omega)) (by omega) fun k2 hc2 => ?_)
              dsimp only
              obtain ⟨d1, d2, d3⟩ := hc2
              have m4 : Mg x.toList y.toList i2 (j' + 1 + k2) (o2.push y[j'] ++ y.extract (j' + 1) (j' + 1 + k2)).toList := by
                have := m3.stepY (k := k2) h.iy (fun p hp q hq => by
                  obtain ⟨t, ht, hts, rfl⟩ := mem_take hp
                  obtain ⟨v, hv, rfl⟩ := mem_drop hq
                  have h1 := d2 t ht
                  have h2 := inc_K h.ix (show i2 ≤ i2 + v by omega) hv
                  rw [K_nk hi2, K_nk hv] at h2
                  unfold pv at h1
                  simp only [if_true, decide_eq_true_eq] at h1
                  rw [K_nk hts] at h1
                  omega)
                rw [Array.toList_append, ext_list]; exact this
              have cx : ∀ p ∈ (x.toList.drop i2).take 1, ∀ q ∈ y.toList.drop (j' + 1 + k2), nk p ≤ nk q := fun p hp q hq => by
                rw [one_drop hi2] at hp
                rw [List.mem_singleton.mp hp]
                obtain ⟨v, hv, rfl⟩ := mem_drop hq
                have h1 := d3 (k2 + v) (by omega) (by omega)
                unfold pv at h1
                simp only [if_true, decide_eq_false_iff_not] at h1
                rw [← Nat.add_assoc, K_nk hv] at h1
                omega
              by_cases k20 : k2 > 0
              rw [if_pos k20]
              by_cases q4 : j' + 1 + k2 = y.size
              · rw [if_pos (by simpa using q4)]
                exact wpS_pure ⟨kp4, .inl ⟨_, _, rfl, eX m4 q4⟩⟩
              rw [if_neg (by simpa using q4)]
              have n4 : j' + 1 + k2 < y.size := by omega
              have p4 : i + j + 1 ≤ i2 + (j' + 1 + k2) := by omega
              generalize o2.push y[j'] ++ y.extract (j' + 1) (j' + 1 + k2) = o4 at m4 ⊢
              generalize j' + 1 + k2 = j4 at m4 cx n4 p4 ⊢
              rotate_left
              rw [if_neg k20]
              have k00 : k2 = 0 := by omega
              subst k00
              rw [Nat.add_zero] at cx
              clear m4
              have m4 := m3
              have n4 : j' + 1 < y.size := by omega
              have p4 : i + j + 1 ≤ i2 + (j' + 1) := by omega
              clear m3 d1 d2 d3
              generalize o2.push y[j'] = o4 at m4 ⊢
              generalize j' + 1 = j4 at m4 cx n4 p4 ⊢
              all_goals
                refine wpS_bind (wpS_elem (Array.getElem?_eq_getElem hi2) ?_)
                have m5 := m4.stepX (k := 1) h.ix cx
                rw [one_drop hi2, ← Array.toList_push] at m5
                by_cases q5 : i2 + 1 + 1 = x.size
                · rw [if_pos (by simpa using q5)]
                  exact wpS_pure ⟨kp4, .inl ⟨_, _, rfl, eL m5 q5⟩⟩
                rw [if_neg (by simpa using q5)]
                split
                · exact wpS_pure ⟨kp4, .inr ⟨_, _, _, _, _, _, rfl, m5, by omega, n4, by omega⟩⟩
                · exact wpS_pure ⟨kp4, _, _, _, _, _, _, rfl, m5, by omega, n4, by omega⟩
end
end Srt
set_option Elab.async false
set_option linter.all false
set_option maxRecDepth 100000
set_option maxHeartbeats 4000000
namespace Srt
open PySem PyProof.Rows
def mHi : Array Keyed → Array Keyed → StateT SortSt Sem (Array Keyed) := sortPriv% PySem.Builtin.mergeHi
theorem mHi_do (x y : Array Keyed) : ∃ u : StateT SortSt Sem (Array Keyed), mHi x y = (do
  rule "list.sort.merge-hi"
  let tot := x.size + y.size
  let fin (o : Array Keyed) (i j : Nat) := x.extract 0 i ++ y.extract 0 j ++ o.reverse
  let frs (o : Array Keyed) (i j : Nat) := y.extract 0 j ++ x.extract 0 i ++ o.reverse
  let mut i := x.size - 1
  let mut j := y.size
  let mut o : Array Keyed := #[← elem' x i]
  if i == 0 then return fin o i j
  if j == 1 then return frs o i j
  let mut g := gallopOf (← get)
  for _ in [0:tot] do
    let mut ca := 0
    let mut cb := 0
    for _ in [0:tot] do
      let some aw ← lt' (← elem' y (j - 1)) (← elem' x (i - 1)) | return fin o i j
      if aw then
        i := i - 1; o := o.push (← elem' x i); ca := ca + 1; cb := 0
        if i == 0 then return fin o i j
        if ca ≥ g then break
      else
        j := j - 1; o := o.push (← elem' y j); cb := cb + 1; ca := 0
        if j == 1 then return frs o i j
        if cb ≥ g then break
    rule "list.sort.gallop"
    g := g + 1
    for _ in [0:tot] do
      if g > 1 then g := g - 1
      setG g
      let some v ← leap false (← elem' y (j - 1)) x 0 i (i - 1) | return fin o i j
      let k := i - v
      ca := k
      if k > 0 then
        o := o ++ (x.extract v i).reverse; i := v
        if i == 0 then return fin o i j
      j := j - 1; o := o.push (← elem' y j)
      if j == 1 then return frs o i j
      let some v ← leap true (← elem' x (i - 1)) y 0 j (j - 1) | return fin o i j
      let k := j - v
      cb := k
      if k > 0 then
        o := o ++ (y.extract v j).reverse; j := v
        if j == 1 then return frs o i j
        if j == 0 then return fin o i j
      i := i - 1; o := o.push (← elem' x i)
      if i == 0 then return fin o i j
      if ca < 7 && cb < 7 then break
    g := g + 1
    setG g
  u) := ⟨_, rfl⟩
structure Mh (X Y : List Keyed) (i j : Nat) (R : List Keyed) : Prop where
  perm : R.Perm (X.drop i ++ Y.drop j)
  inc : Inc R
  le : ∀ p, (p ∈ X.take i ∨ p ∈ Y.take j) → ∀ q ∈ R, nk p ≤ nk q
theorem drop_cut {X : List Keyed} {i v : Nat} (h : v ≤ i) : X.drop v = (X.take i).drop v ++ X.drop i := by
  rw [List.drop_take]
  have : X.drop i = (X.drop v).drop (i - v) := by rw [List.drop_drop]; congr 1; omega
  rw [this, List.take_append_drop]
theorem take_mem {X : List Keyed} {i v : Nat} (h : v ≤ i) {p : Keyed} (hp : p ∈ X.take v) : p ∈ X.take i := by
  have : X.take v = (X.take i).take v := by rw [List.take_take]; congr 1; omega
  rw [this] at hp
  exact List.mem_of_mem_take hp
theorem take_cut {X : List Keyed} (hX : Inc X) {i v : Nat} (h : v ≤ i) : ∀ p ∈ X.take v, ∀ q ∈ (X.take i).drop v, nk p ≤ nk q := fun p hp q hq => by
  have e : X.take v = (X.take i).take v := by rw [List.take_take]; congr 1; omega
  rw [e] at hp
  exact (hX.take i).split v p hp q hq
theorem Mh.stepX {X Y R : List Keyed} {i j v : Nat} (h : Mh X Y i j R) (hX : Inc X) (hv : v ≤ i) (hc : ∀ p ∈ Y.take j, ∀ q ∈ (X.take i).drop v, nk p ≤ nk q) : Mh X Y v j ((X.take i).drop v ++ R) := by
  refine ⟨?_, ?_, fun p hp q hq => ?_⟩
  · rw [drop_cut (X := X) hv, List.append_assoc]
    exact List.Perm.append_left _ h.perm
  · exact List.pairwise_append.mpr ⟨(hX.take i).drop v, h.inc, fun p hp q hq => h.le p (.inl (List.mem_of_mem_drop hp)) q hq⟩
  · rcases List.mem_append.mp hq with hq | hq
    · rcases hp with hp | hp
      · exact take_cut hX hv p hp q hq
      · exact hc p hp q hq
    · rcases hp with hp | hp
      · exact h.le p (.inl (take_mem hv hp)) q hq
      · exact h.le p (.inr hp) q hq
theorem Mh.stepY {X Y R : List Keyed} {i j v : Nat} (h : Mh X Y i j R) (hY : Inc Y) (hv : v ≤ j) (hc : ∀ p ∈ X.take i, ∀ q ∈ (Y.take j).drop v, nk p ≤ nk q) : Mh X Y i v ((Y.take j).drop v ++ R) := by
  refine ⟨?_, ?_, fun p hp q hq => ?_⟩
  · rw [drop_cut (X := Y) hv]
    refine (List.Perm.append_left _ h.perm).trans ?_
    rw [← List.append_assoc, ← List.append_assoc]
    exact List.Perm.append_right _ List.perm_append_comm
  · exact List.pairwise_append.mpr ⟨(hY.take j).drop v, h.inc, fun p hp q hq => h.le p (.inr (List.mem_of_mem_drop hp)) q hq⟩
  · rcases List.mem_append.mp hq with hq | hq
    · rcases hp with hp | hp
      · exact hc p hp q hq
      · exact take_cut hY hv p hp q hq
    · rcases hp with hp | hp
      · exact h.le p (.inl hp) q hq
      · exact h.le p (.inr (take_mem hv hp)) q hq
theorem Mh.end0 {X Y R : List Keyed} {i j : Nat} (h : Mh X Y i j R) (hX : Inc X) (hY : Inc Y) (hc : ∀ p ∈ X.take i, ∀ q ∈ Y.take j, nk p ≤ nk q) : Out X Y (X.take i ++ Y.take j ++ R) := by
  refine ⟨?_, List.pairwise_append.mpr ⟨List.pairwise_append.mpr ⟨hX.take i, hY.take j, hc⟩, h.inc, fun p hp q hq => h.le p (List.mem_append.mp hp) q hq⟩⟩
  refine (List.Perm.append_left _ h.perm).trans ?_
  have e : X ++ Y = X.take i ++ X.drop i ++ (Y.take j ++ Y.drop j) := by rw [List.take_append_drop, List.take_append_drop]
  rw [e, List.append_assoc, List.append_assoc]
  refine List.Perm.append_left _ ?_
  rw [← List.append_assoc, ← List.append_assoc]
  exact List.Perm.append_right _ List.perm_append_comm
theorem Mh.end1 {X Y R : List Keyed} {i j : Nat} (h : Mh X Y i j R) (hX : Inc X) (hY : Inc Y) (hc : ∀ p ∈ Y.take j, ∀ q ∈ X.take i, nk p ≤ nk q) : Out X Y (Y.take j ++ X.take i ++ R) := by
  refine ⟨?_, List.pairwise_append.mpr ⟨List.pairwise_append.mpr ⟨hY.take j, hX.take i, hc⟩, h.inc, fun p hp q hq => h.le p ((List.mem_append.mp hp).symm) q hq⟩⟩
  refine (List.Perm.append_left _ h.perm).trans ?_
  have e : X ++ Y = X.take i ++ X.drop i ++ (Y.take j ++ Y.drop j) := by rw [List.take_append_drop, List.take_append_drop]
  rw [e]
  have e2 : Y.take j ++ X.take i ++ (X.drop i ++ Y.drop j) = Y.take j ++ (X.take i ++ X.drop i) ++ Y.drop j := by simp only [List.append_assoc]
  rw [e2, ← List.append_assoc (X.take i ++ X.drop i)]
  exact List.Perm.append_right _ List.perm_append_comm
theorem one_last {x : Array Keyed} {i : Nat} (h0 : 0 < i) (h : i ≤ x.size) : (x.toList.take i).drop (i - 1) = [x[i - 1]'(by omega)] := by
  rw [List.drop_take, show i - (i - 1) = 1 by omega]
  exact one_drop (by omega)
theorem ext_0 (x : Array Keyed) (i : Nat) : (x.extract 0 i).toList = x.toList.take i := by simp
theorem ext_vi (x : Array Keyed) (v i : Nat) : (x.extract v i).toList = (x.toList.take i).drop v := by
  rw [Array.toList_extract, List.extract_eq_take_drop, List.drop_take]
theorem mem_tk {x : Array Keyed} {i : Nat} {q : Keyed} (h : q ∈ x.toList.take i) : ∃ t, t < i ∧ ∃ (h : t < x.size), q = x[t] := by
  obtain ⟨t, ht, e⟩ := List.getElem_of_mem h
  rw [List.length_take, Array.length_toList] at ht
  exact ⟨t, by omega, by omega, by rw [← e, List.getElem_take]; simp⟩
theorem mem_td {x : Array Keyed} {v i : Nat} {q : Keyed} (h : q ∈ (x.toList.take i).drop v) : ∃ t, v ≤ t ∧ t < i ∧ ∃ (h : t < x.size), q = x[t] := by
  obtain ⟨t, ht, e⟩ := List.getElem_of_mem h
  rw [List.length_drop, List.length_take, Array.length_toList] at ht
  exact ⟨v + t, by omega, by omega, by omega, by rw [← e, List.getElem_drop, List.getElem_take]; simp⟩
section
variable {prog : Program} {w : World} {A : Around} {E : Value → Shared → Prop} {s : Shared} {st : SortSt} {x y : Array Keyed}
theorem Mr.ask0X (h : Mr x y) (hk : kindOf st = oneType') {key : Keyed} (hy : isN key) {i : Nat} (hi : i ≤ x.size) : Ask st key x 0 i :=
  ⟨hk, h.nx, hy, fun a b hab hb => inc_K h.ix (by omega) (by omega), by omega⟩
theorem Mr.ask0Y (h : Mr x y) (hk : kindOf st = oneType') {key : Keyed} (hy : isN key) {i : Nat} (hi : i ≤ y.size) : Ask st key y 0 i :=
  ⟨hk, h.ny, hy, fun a b hab hb => inc_K h.iy (by omega) (by omega), by omega⟩
theorem wpS_mHi {Q : Array Keyed → SortSt → Prop} (hk : kindOf st = oneType') (h : Mr x y) (hQ : ∀ o st', Keep st st' → Out x.toList y.toList o.toList → Q o st') : wpS (model prog w) A E s (mHi x y) Q st := by
  obtain ⟨u, e⟩ := mHi_do x y
  rw [e]
  refine wpS_bind (wpS_lift (wpAny_rule ⟨rfl, ?_⟩))
  have hx0 := h.x0
  have hy0 := h.y0
  refine wpS_bind (wpS_elem (Array.getElem?_eq_getElem (show x.size - 1 < x.size by omega)) ?_)
  dsimp only
  have M1 : Mh x.toList y.toList (x.size - 1) y.size (#[x[x.size - 1]] : Array Keyed).toList.reverse := by
    have m0 : Mh x.toList y.toList x.size y.size [] := ⟨by simp, List.Pairwise.nil, fun _ _ _ hq => nomatch hq⟩
    have := m0.stepX h.ix (v := x.size - 1) (by omega) (fun p hp q hq => h.lst q (by
      have e : x.toList.take x.size = x.toList := List.take_of_length_le (by simp)
      rw [e] at hq; exact hq) p (List.mem_of_mem_take hp))
    rw [one_last hx0 (Nat.le_refl _)] at this
    exact this
  have e0 : ∀ {o : Array Keyed} {i j : Nat}, Mh x.toList y.toList i j o.toList.reverse → i = 0 ∨ j = 0 → Out x.toList y.toList (x.extract 0 i ++ y.extract 0 j ++ o.reverse).toList := fun {o i j} m hi => by
    have := m.end0 h.ix h.iy (fun p hp q hq => by
      rcases hi with rfl | rfl
      · cases hp
      · cases hq)
    rw [Array.toList_append, Array.toList_append, ext_0, ext_0, Array.toList_reverse]
    exact this
  have e1 : ∀ {o : Array Keyed} {i j : Nat}, Mh x.toList y.toList i j o.toList.reverse → j = 1 → Out x.toList y.toList (y.extract 0 j ++ x.extract 0 i ++ o.reverse).toList := fun {o i j} m hj => by
    have := m.end1 h.ix h.iy (fun p hp q hq => by
      subst hj
      exact h.fst p hp q (List.mem_of_mem_take hq))
    rw [Array.toList_append, Array.toList_append, ext_0, ext_0, Array.toList_reverse]
    exact this
  by_cases h1 : x.size - 1 = 0
  · rw [if_pos (by simpa using h1)]
    exact wpS_pure (hQ _ _ (Keep.refl st) (e0 M1 (.inl h1)))
  rw [if_neg (by simpa using h1)]
  by_cases h2 : y.size = 1
  · rw [if_pos (by simpa using h2)]
    exact wpS_pure (hQ _ _ (Keep.refl st) (e1 M1 h2))
  rw [if_neg (by simpa using h2)]
  refine wpS_bind (wpS_get ?_)
  refine wpS_bind (wpS_mono (wpS_forRange (I := fun t c st' => Keep st st' ∧ ∃ i j o g, c = (none, i, j, o, g) ∧ Mh x.toList y.toList i j o.toList.reverse ∧ 0 < i ∧ 1 < j ∧ i ≤ x.size ∧ j ≤ y.size ∧ i + j + t + 1 ≤ x.size + y.size)
    (Q := fun c st' => Keep st st' ∧ ∃ r, c.1 = some r ∧ Out x.toList y.toList r.toList) ?step ?fin ⟨Keep.refl st, _, _, _, _, rfl, M1, by omega, by omega, by omega, by omega, by omega⟩) ?post)
  case fin =>
    rintro c st' ⟨_, i, j, o, g, rfl, _, a1, a2, a3, a4, a5⟩
    omega
  case post =>
    rintro ⟨c1, c2⟩ st' ⟨kp, r, e, ho⟩
    cases e
    exact wpS_pure (hQ r st' kp ho)
  case step =>
    rintro t c st' _ ht ⟨kp, i, j, o, g, rfl, m, a1, a2, a3, a4, a5⟩
    dsimp only
    have hk' : kindOf st' = oneType' := kp.k.trans hk
    have pushX : ∀ {o : Array Keyed} {i j : Nat} (hi : 0 < i) (hi2 : i ≤ x.size), Mh x.toList y.toList i j o.toList.reverse → (∀ p ∈ y.toList.take j, nk p ≤ nk (x[i - 1]'(by omega))) → Mh x.toList y.toList (i - 1) j (o.push (x[i - 1]'(by omega))).toList.reverse := fun {o i j} hi hi2 m hc => by
      have := m.stepX h.ix (v := i - 1) (by omega) (fun p hp q hq => by
        rw [one_last hi hi2] at hq
        rw [List.mem_singleton.mp hq]; exact hc p hp)
      rw [one_last hi hi2] at this
      rw [Array.toList_push, List.reverse_append]; exact this
    have pushY : ∀ {o : Array Keyed} {i j : Nat} (hi : 0 < j) (hi2 : j ≤ y.size), Mh x.toList y.toList i j o.toList.reverse → (∀ p ∈ x.toList.take i, nk p ≤ nk (y[j - 1]'(by omega))) → Mh x.toList y.toList i (j - 1) (o.push (y[j - 1]'(by omega))).toList.reverse := fun {o i j} hi hi2 m hc => by
      have := m.stepY h.iy (v := j - 1) (by omega) (fun p hp q hq => by
        rw [one_last hi hi2] at hq
        rw [List.mem_singleton.mp hq]; exact hc p hp)
      rw [one_last hi hi2] at this
      rw [Array.toList_push, List.reverse_append]; exact this
    have topX : ∀ {i : Nat} (hi : 0 < i) (hi2 : i ≤ x.size), ∀ p ∈ x.toList.take i, nk p ≤ nk (x[i - 1]'(by omega)) := fun {i} hi hi2 p hp => by
      obtain ⟨t, ht, hts, rfl⟩ := mem_tk hp
      have := inc_K h.ix (show t ≤ i - 1 by omega) (by omega)
      rw [K_nk hts, K_nk (by omega)] at this
      exact this
    have topY : ∀ {j : Nat} (hi : 0 < j) (hi2 : j ≤ y.size), ∀ p ∈ y.toList.take j, nk p ≤ nk (y[j - 1]'(by omega)) := fun {j} hi hi2 p hp => by
      obtain ⟨t, ht, hts, rfl⟩ := mem_tk hp
      have := inc_K h.iy (show t ≤ j - 1 by omega) (by omega)
      rw [K_nk hts, K_nk (by omega)] at this
      exact this
    refine wpS_bind (wpS_mono (wpS_forRange (I := fun t2 c st2 => st2 = st' ∧ ∃ i' j' o ca cb, c = (none, i', j', o, ca, cb) ∧ Mh x.toList y.toList i' j' o.toList.reverse ∧ 0 < i' ∧ 1 < j' ∧ i' ≤ x.size ∧ j' ≤ y.size ∧ i' + j' + t2 ≤ i + j)
      (Q := fun c st2 => st2 = st' ∧ ((∃ r c2, c = (some r, c2) ∧ Out x.toList y.toList r.toList) ∨ ∃ i' j' o ca cb, c = (none, i', j', o, ca, cb) ∧ Mh x.toList y.toList i' j' o.toList.reverse ∧ 0 < i' ∧ 1 < j' ∧ i' ≤ x.size ∧ j' ≤ y.size ∧ i' + j' + 1 ≤ i + j)) ?step1 ?fin1 ⟨rfl, _, _, _, _, _, rfl, m, a1, a2, a3, a4, by omega⟩) ?post1)
    case fin1 =>
      rintro c st2 ⟨rfl, i', j', o, ca, cb, rfl, m, b1, b2, b3, b4, b5⟩
      exact ⟨rfl, .inr ⟨i', j', o, ca, cb, rfl, m, b1, b2, b3, b4, by omega⟩⟩
    case step1 =>
      rintro t2 c st2 _ ht2 ⟨rfl, i', j', o, ca, cb, rfl, m, b1, b2, b3, b4, b5⟩
      dsimp only
      have hj1 : j' - 1 < y.size := by omega
      have hi1 : i' - 1 < x.size := by omega
      refine wpS_bind (wpS_elem (Array.getElem?_eq_getElem hj1) (wpS_bind (wpS_elem (Array.getElem?_eq_getElem hi1) (wpS_bind (wpS_lt2 hk' (h.ny _ (by simp)) (h.nx _ (by simp)) ?_)))))
      dsimp only
      by_cases hw : nk y[j' - 1] < nk x[i' - 1]
      · simp only [hw, decide_true, if_true]
        refine wpS_bind (wpS_elem (Array.getElem?_eq_getElem hi1) ?_)
        have m2 := pushX b1 b3 m (fun p hp => by have := topY (by omega) b4 p hp; omega)
        by_cases q1 : i' - 1 = 0
        · rw [if_pos (by simpa using q1)]
          exact wpS_pure ⟨rfl, .inl ⟨_, _, rfl, e0 m2 (.inl q1)⟩⟩
        · rw [if_neg (by simpa using q1)]
          split
          · exact wpS_pure ⟨rfl, .inr ⟨_, _, _, _, _, rfl, m2, by omega, b2, by omega, b4, by omega⟩⟩
          · exact wpS_pure ⟨rfl, _, _, _, _, _, rfl, m2, by omega, b2, by omega, b4, by omega⟩
      · simp only [hw, decide_false, Bool.false_eq_true, if_false]
        refine wpS_bind (wpS_elem (Array.getElem?_eq_getElem hj1) ?_)
        have m2 := pushY (by omega) b4 m (fun p hp => by have := topX b1 b3 p hp; omega)
        by_cases q1 : j' - 1 = 1
        · rw [if_pos (by simpa using q1)]
          exact wpS_pure ⟨rfl, .inl ⟨_, _, rfl, e1 m2 q1⟩⟩
        · rw [if_neg (by simpa using q1)]
          split
          · exact wpS_pure ⟨rfl, .inr ⟨_, _, _, _, _, rfl, m2, b1, by omega, b3, by omega, by omega⟩⟩
          · exact wpS_pure ⟨rfl, _, _, _, _, _, rfl, m2, b1, by omega, b3, by omega, by omega⟩
    case post1 =>
      rintro c st2 ⟨rfl, ⟨r, c2, rfl, ho⟩ | ⟨i', j', o, ca, cb, rfl, m, b1, b2, b3, b4, b5⟩⟩
      · exact wpS_pure ⟨kp, r, rfl, ho⟩
      · dsimp only
        refine wpS_bind (wpS_lift (wpAny_rule ⟨rfl, ?_⟩))
        refine wpS_bind (wpS_mono (wpS_forRange (I := fun t3 c st3 => Keep st st3 ∧ ∃ i' j' o g ca cb, c = (none, i', j', o, g, ca, cb) ∧ Mh x.toList y.toList i' j' o.toList.reverse ∧ 0 < i' ∧ 1 < j' ∧ i' ≤ x.size ∧ j' ≤ y.size ∧ i' + j' + 1 ≤ i + j)
          (Q := fun c st3 => Keep st st3 ∧ ((∃ r c2, c = (some r, c2) ∧ Out x.toList y.toList r.toList) ∨ ∃ i' j' o g ca cb, c = (none, i', j', o, g, ca, cb) ∧ Mh x.toList y.toList i' j' o.toList.reverse ∧ 0 < i' ∧ 1 < j' ∧ i' ≤ x.size ∧ j' ≤ y.size ∧ i' + j' + 1 ≤ i + j)) ?step2 ?fin2 ⟨kp, _, _, _, _, _, _, rfl, m, b1, b2, b3, b4, b5⟩) ?post2)
        case fin2 =>
          rintro c st3 ⟨kp3, i', j', o, g, ca, cb, rfl, m, b⟩
          exact ⟨kp3, .inr ⟨i', j', o, g, ca, cb, rfl, m, b⟩⟩
        case post2 =>
          rintro c st3 ⟨kp3, ⟨r, c2, rfl, ho⟩ | ⟨i', j', o, g, ca, cb, rfl, m, b1, b2, b3, b4, b5⟩⟩
          · exact wpS_pure ⟨kp3, r, rfl, ho⟩
          · dsimp only
            refine wpS_bind (wpS_setG fun st4 kp4 => wpS_pure ⟨kp3.trans kp4, _, _, _, _, rfl, m, b1, b2, b3, b4, by omega⟩)
        case step2 =>
          clear m b1 b2 b3 b4 b5 ca cb
          rintro t3 c st3 _ ht3 ⟨kp3, i', j', o, g, ca, cb, rfl, m, b1, b2, b3, b4, b5⟩
          dsimp only
          have hj1 : j' - 1 < y.size := by omega
          by_cases hg : g > 1
          rw [if_pos hg]
          rotate_left
          rw [if_neg hg]
          all_goals
            refine wpS_bind (wpS_setG fun st4 kp4' => ?_)
            have kp4 := kp3.trans kp4'
            have hk4 : kindOf st4 = oneType' := kp4.k.trans hk
            refine wpS_bind (wpS_elem (Array.getElem?_eq_getElem hj1) ?_)
            refine wpS_bind (wpS_leap (h.ask0X hk4 (h.ny _ (by simp)) b3) (by omega) fun v hc => ?_)
            dsimp only
            obtain ⟨c1, c2, c3⟩ := hc
            have mk : Mh x.toList y.toList v j' (o ++ (x.extract v i').reverse).toList.reverse := by
              have := m.stepX h.ix (v := v) c1 (fun p hp q hq => by
                obtain ⟨t, ht1, ht2, hts, rfl⟩ := mem_td hq
                have h1 := c3 t ht1 ht2
                have h2 := topY (by omega) b4 p hp
                unfold pv at h1
                simp only [Bool.false_eq_true, if_false, Bool.not_eq_false', decide_eq_true_eq, Nat.zero_add] at h1
                rw [K_nk hts] at h1
                omega)
              rw [Array.toList_append, List.reverse_append, Array.toList_reverse, List.reverse_reverse, ext_vi]; exact this
            have cy : ∀ p ∈ x.toList.take v, nk p ≤ nk (y[j' - 1]) := fun p hp => by
              obtain ⟨t, ht, hts, rfl⟩ := mem_tk hp
              have h1 := c2 t ht
              unfold pv at h1
              simp only [Bool.false_eq_true, if_false, Bool.not_eq_true', decide_eq_false_iff_not, Nat.zero_add] at h1
              rw [K_nk hts] at h1
              omega
            by_cases k0 : i' - v > 0
            rw [if_pos k0]
            by_cases q1 : v = 0
            · rw [if_pos (by simpa using q1)]
              exact wpS_pure ⟨kp4, .inl ⟨_, _, rfl, e0 mk (.inl q1)⟩⟩
            rw [if_neg (by simpa using q1)]
            have n2 : 0 < v := by omega
            have n3 : v ≤ x.size := by omega
            have p2 : v + j' + 1 ≤ i + j := by omega
            generalize o ++ (x.extract v i').reverse = o2 at mk ⊢
            clear c1 c2 c3 k0 q1
            generalize v = i2 at mk cy n2 n3 p2 ⊢
            rotate_left
            rw [if_neg k0]
            have k00 : v = i' := by omega
            subst k00
            clear mk
            have mk := m
            have n2 := b1
            have n3 := b3
            have p2 := b5
            clear m c1 c2 c3 k0
            generalize v = i2 at mk cy n2 n3 p2 ⊢
            generalize o = o2 at mk ⊢
            all_goals
              refine wpS_bind (wpS_elem (Array.getElem?_eq_getElem hj1) ?_)
              have m3 := pushY (by omega) b4 mk cy
              by_cases q3 : j' - 1 = 1
              · rw [if_pos (by simpa using q3)]
                exact wpS_pure ⟨kp4, .inl ⟨_, _, rfl, e1 m3 q3⟩⟩
              rw [if_neg (by simpa using q3)]
              have hi1 : i2 - 1 < x.size := by omega
              refine wpS_bind (wpS_elem (Array.getElem?_eq_getElem hi1) ?_)
              refine wpS_bind (wpS_leap (h.ask0Y hk4 (h.nx _ (by simp)) (show j' - 1 ≤ y.size by omega)) (by omega) fun v2 hc2 => ?_)
              dsimp only
              obtain ⟨d1, d2, d3⟩ := hc2
              have m4 : Mh x.toList y.toList i2 v2 (o2.push y[j' - 1] ++ (y.extract v2 (j' - 1)).reverse).toList.reverse := by
                have := m3.stepY h.iy (v := v2) d1 (fun p hp q hq => by
                  obtain ⟨t, ht1, ht2, hts, rfl⟩ := mem_td hq
                  have h1 := d3 t ht1 ht2
                  have h2 := topX n2 n3 p hp
                  unfold pv at h1
                  simp only [if_true, decide_eq_false_iff_not, Nat.zero_add] at h1
                  rw [K_nk hts] at h1
                  omega)
                rw [Array.toList_append, List.reverse_append, Array.toList_reverse, List.reverse_reverse, ext_vi]; exact this
              have cx : ∀ p ∈ y.toList.take v2, nk p ≤ nk (x[i2 - 1]) := fun p hp => by
                obtain ⟨t, ht, hts, rfl⟩ := mem_tk hp
                have h1 := d2 t ht
                unfold pv at h1
                simp only [if_true, decide_eq_true_eq, Nat.zero_add] at h1
                rw [K_nk hts] at h1
                omega
              by_cases k20 : j' - 1 - v2 > 0
              rw [if_pos k20]
              by_cases q4 : v2 = 1
              · rw [if_pos (by simpa using q4)]
                exact wpS_pure ⟨kp4, .inl ⟨_, _, rfl, e1 m4 q4⟩⟩
              rw [if_neg (by simpa using q4)]
              by_cases q6 : v2 = 0
              · rw [if_pos (by simpa using q6)]
                exact wpS_pure ⟨kp4, .inl ⟨_, _, rfl, e0 m4 (.inr q6)⟩⟩
              rw [if_neg (by simpa using q6)]
              have n4 : 1 < v2 := by omega
              have n5 : v2 ≤ y.size := by omega
              have p4 : i2 + v2 + 1 ≤ i + j := by omega
              generalize o2.push y[j' - 1] ++ (y.extract v2 (j' - 1)).reverse = o4 at m4 ⊢
              clear d1 d2 d3 k20 q4 q6
              generalize v2 = j4 at m4 cx n4 n5 p4 ⊢
              rotate_left
              rw [if_neg k20]
              have k00 : v2 = j' - 1 := by omega
              subst k00
              clear m4
              have m4 := m3
              have n4 : 1 < j' - 1 := by omega
              have n5 : j' - 1 ≤ y.size := by omega
              have p4 : i2 + (j' - 1) + 1 ≤ i + j := by omega
              clear m3 d1 d2 d3 k20
              generalize o2.push y[j' - 1] = o4 at m4 ⊢
              generalize j' - 1 = j4 at m4 cx n4 n5 p4 ⊢
              all_goals
                refine wpS_bind (wpS_elem (Array.getElem?_eq_getElem hi1) ?_)
                have m5 := pushX n2 n3 m4 cx
                by_cases q5 : i2 - 1 = 0
                · rw [if_pos (by simpa using q5)]
                  exact wpS_pure ⟨kp4, .inl ⟨_, _, rfl, e0 m5 (.inl q5)⟩⟩
                rw [if_neg (by simpa using q5)]
                split
                · exact wpS_pure ⟨kp4, .inr ⟨_, _, _, _, _, _, rfl, m5, by omega, n4, by omega, n5, by omega⟩⟩
                · exact wpS_pure ⟨kp4, _, _, _, _, _, _, rfl, m5, by omega, n4, by omega, n5, by omega⟩
end
end Srt
set_option Elab.async false
set_option linter.all false
set_option maxRecDepth 100000
set_option maxHeartbeats 4000000
namespace Srt
open PySem PyProof.Rows
theorem mAt_do (i : Nat) : ∃ u : StateT SortSt Sem Bool, mergeAt' i = (do
  let s ← get
  let (some (sa, na, pw), some (sb, nb, _)) := ((pendingOf s)[i]?, (pendingOf s)[i + 1]?) | u
  set (setPending s (((pendingOf s).setIfInBounds i (sa, na + nb, pw)).eraseIdxIfInBounds (i + 1)))
  let some k ← leap false (← elem' (arrOf s) sb) (arrOf s) sa na 0 | return false
  let (sa, na) := (sa + k, na - k)
  if na == 0 then return true
  let some nb ← leap true (← elem' (arrOf s) (sa + na - 1)) (arrOf s) sb nb (nb - 1) | return false
  if nb == 0 then return true
  let x := (arrOf s).extract sa sb
  let y := (arrOf s).extract sb (sb + nb)
  let o ← if na ≤ nb then mLo x y else mHi x y
  modify fun s => setArr s (o.toList.zipIdx.foldl (fun a (p, j) => a.setIfInBounds (sa + j) p) (arrOf s))
  return (failedOf (← get)).isNone) := ⟨_, rfl⟩
theorem lay_list : ∀ (o : List Keyed) (a : Array Keyed) (sa c : Nat), sa + c + o.length ≤ a.size → ((o.zipIdx c).foldl (fun a (p, j) => a.setIfInBounds (sa + j) p) a).toList = a.toList.take (sa + c) ++ o ++ a.toList.drop (sa + c + o.length)
  | [], a, sa, c, h => by simp
  | p :: o, a, sa, c, h => by
    rw [List.zipIdx_cons, List.foldl_cons]
    simp only [List.length_cons] at h
    have ih := lay_list o (a.setIfInBounds (sa + c) p) sa (c + 1) (by rw [Array.size_setIfInBounds]; omega)
    rw [ih, Array.toList_setIfInBounds, ← Nat.add_assoc]
    have h1 : sa + c < a.toList.length := by simp; omega
    have e1 : (a.toList.set (sa + c) p).take (sa + c + 1) = a.toList.take (sa + c) ++ [p] := by
      rw [List.take_add_one, List.take_set_of_le (Nat.le_refl _), List.getElem?_set_self h1]; rfl
    have e2 : (a.toList.set (sa + c) p).drop (sa + c + 1 + o.length) = a.toList.drop (sa + c + (o.length + 1)) := by
      rw [List.drop_set_of_lt (by omega)]; congr 1; omega
    rw [e1, e2, List.length_cons]; simp
section
variable {prog : Program} {w : World} {A : Around} {E : Value → Shared → Prop} {s : Shared} {st : SortSt}
structure Ok (st : SortSt) : Prop where
  k : kindOf st = oneType'
  n : ∀ p ∈ (arrOf st).toList, isN p
  f : failedOf st = none
theorem wpS_set {st1 : SortSt} {Q : PUnit → SortSt → Prop} (h : Q ⟨⟩ st1) : wpS (model prog w) A E s (set st1 : StateT SortSt Sem PUnit) Q st := by
  unfold wpS; rw [StateT.run_set]; exact wpAny_pure ⟨rfl, h⟩
theorem seg {a : Array Keyed} {P C T : List Keyed} (hl : a.toList = P ++ C ++ T) {t : Nat} (ht : t < C.length) : a[P.length + t]? = some C[t] := by
  rw [← Array.getElem?_toList, hl, List.append_assoc, List.getElem?_append_right (by omega), List.getElem?_append_left (by omega)]
  rw [show P.length + t - P.length = t by omega, List.getElem?_eq_getElem ht]
theorem seg_K {a : Array Keyed} {P C T : List Keyed} (hl : a.toList = P ++ C ++ T) {t : Nat} (ht : t < C.length) : K a (P.length + t) = nk C[t] := by
  unfold K; rw [seg hl ht]; rfl
theorem inc_get {C : List Keyed} (h : Inc C) {i j : Nat} (hij : i ≤ j) (hj : j < C.length) : nk (C[i]'(by omega)) ≤ nk C[j] := by
  by_cases e : i = j
  · subst e; exact Int.le_refl _
  · exact List.pairwise_iff_getElem.mp h i j (by omega) hj (by omega)
theorem wpS_mAt {i pw pw' : Nat} {P C B S : List Keyed} {Q : Bool → SortSt → Prop} (ok : Ok st) (hp : (pendingOf st)[i]? = some (P.length, C.length, pw)) (hq : (pendingOf st)[i + 1]? = some (P.length + C.length, B.length, pw'))
    (hl : (arrOf st).toList = P ++ C ++ B ++ S) (c0 : 0 < C.length) (b0 : 0 < B.length) (iC : Inc C) (iB : Inc B)
    (hQ : ∀ st' R, Ok st' → pendingOf st' = ((pendingOf st).setIfInBounds i (P.length, C.length + B.length, pw)).eraseIdxIfInBounds (i + 1) → (arrOf st').toList = P ++ R ++ S → R.Perm (C ++ B) → Inc R → Q true st') : wpS (model prog w) A E s (mergeAt' i) Q st := by
  obtain ⟨u, e⟩ := mAt_do i
  rw [e]
  refine wpS_bind (wpS_get ?_)
  rw [hp, hq]
  dsimp only
  refine wpS_bind (wpS_set ?_)
  have hlC : (arrOf st).toList = P ++ C ++ (B ++ S) := by rw [hl]; simp
  have hlB : (arrOf st).toList = (P ++ C) ++ B ++ S := hl
  have lPC : (P ++ C).length = P.length + C.length := List.length_append
  have hsz : (arrOf st).size = P.length + C.length + B.length + S.length := by
    rw [← Array.length_toList, hl]; simp; omega
  have kC : ∀ {t : Nat} (h : t < C.length), K (arrOf st) (P.length + t) = nk C[t] := fun h => seg_K hlC h
  have kB : ∀ {t : Nat} (h : t < B.length), K (arrOf st) (P.length + C.length + t) = nk B[t] := fun {t} h => by rw [← lPC]; exact seg_K hlB h
  have eB : (arrOf st)[P.length + C.length]? = some B[0] := by
    have := seg hlB b0
    rw [lPC, Nat.add_zero] at this; exact this
  have nC : ∀ p ∈ C, isN p := fun p hp => ok.n p (by rw [hl]; simp [hp])
  have nB : ∀ p ∈ B, isN p := fun p hp => ok.n p (by rw [hl]; simp [hp])
  have ok1 : Ok (setPending st (((pendingOf st).setIfInBounds i (P.length, C.length + B.length, pw)).eraseIdxIfInBounds (i + 1))) := ⟨ok.k, ok.n, ok.f⟩
  refine wpS_bind (wpS_elem eB ?_)
  refine wpS_bind (wpS_leap (⟨ok1.k, ok.n, nB _ (List.getElem_mem _), fun a b hab hb => by rw [kC (by omega), kC hb]; exact inc_get iC hab hb, by omega⟩ : Ask _ B[0] (arrOf st) P.length C.length) c0 fun k hc => ?_)
  obtain ⟨k1, k2, k3⟩ := hc
  dsimp only
  have lowC : ∀ p ∈ C.take k, ∀ q ∈ B, nk p ≤ nk q := fun p hp q hq => by
    obtain ⟨t, ht, e⟩ := List.getElem_of_mem hp
    rw [List.length_take] at ht
    rw [List.getElem_take] at e
    obtain ⟨v, hv, e2⟩ := List.getElem_of_mem hq
    have h1 := k2 t (by omega)
    have h2 := inc_get iB (Nat.zero_le v) hv
    unfold pv at h1
    simp only [Bool.false_eq_true, if_false, Bool.not_eq_true', decide_eq_false_iff_not] at h1
    rw [kC (by omega), e] at h1
    rw [e2] at h2
    omega
  have hiC : ∀ p ∈ C.drop k, nk B[0] ≤ nk p := fun p hp => by
    obtain ⟨t, ht, e⟩ := List.getElem_of_mem hp
    rw [List.length_drop] at ht
    rw [List.getElem_drop] at e
    have h1 := k3 (k + t) (by omega) (by omega)
    unfold pv at h1
    simp only [Bool.false_eq_true, if_false, Bool.not_eq_false', decide_eq_true_eq] at h1
    rw [kC (by omega), e] at h1
    omega
  have whole : (∀ p ∈ C, ∀ q ∈ B, nk p ≤ nk q) → ∀ st', Ok st' → pendingOf st' = ((pendingOf st).setIfInBounds i (P.length, C.length + B.length, pw)).eraseIdxIfInBounds (i + 1) → arrOf st' = arrOf st → Q true st' := fun hc st' o1 o2 o3 =>
    hQ st' (C ++ B) o1 o2 (by rw [o3, hl]; simp) (List.Perm.refl _) (List.pairwise_append.mpr ⟨iC, iB, hc⟩)
  by_cases q1 : C.length - k = 0
  · rw [if_pos (by simpa using q1)]
    refine wpS_pure (whole ?_ _ ok1 rfl rfl)
    have : C.take k = C := List.take_of_length_le (by omega)
    rw [this] at lowC
    exact lowC
  rw [if_neg (by simpa using q1)]
  have hlast : P.length + k + (C.length - k) - 1 = P.length + (C.length - 1) := by omega
  have eL : (arrOf st)[P.length + k + (C.length - k) - 1]? = some (C[C.length - 1]'(by omega)) := by rw [hlast]; exact seg hlC (by omega)
  refine wpS_bind (wpS_elem eL ?_)
  refine wpS_bind (wpS_leap (⟨ok1.k, ok.n, nC _ (List.getElem_mem _), fun a b hab hb => by rw [kB (by omega), kB hb]; exact inc_get iB hab hb, by omega⟩ : Ask _ (C[C.length - 1]'(by omega)) (arrOf st) (P.length + C.length) B.length) (by omega) fun v hc => ?_)
  obtain ⟨v1, v2, v3⟩ := hc
  dsimp only
  have topC : ∀ p ∈ C, nk p ≤ nk (C[C.length - 1]'(by omega)) := fun p hp => by
    obtain ⟨t, ht, e⟩ := List.getElem_of_mem hp
    have := inc_get iC (show t ≤ C.length - 1 by omega) (by omega)
    rw [e] at this; exact this
  have hiB : ∀ q ∈ B.drop v, nk (C[C.length - 1]'(by omega)) ≤ nk q := fun q hq => by
    obtain ⟨t, ht, e⟩ := List.getElem_of_mem hq
    rw [List.length_drop] at ht
    rw [List.getElem_drop] at e
    have h1 := v3 (v + t) (by omega) (by omega)
    unfold pv at h1
    simp only [if_true, decide_eq_false_iff_not] at h1
    rw [kB (by omega), e] at h1
    omega
  have loB : ∀ q ∈ B.take v, nk q ≤ nk (C[C.length - 1]'(by omega)) := fun q hq => by
    obtain ⟨t, ht, e⟩ := List.getElem_of_mem hq
    rw [List.length_take] at ht
    rw [List.getElem_take] at e
    have h1 := v2 t (by omega)
    unfold pv at h1
    simp only [if_true, decide_eq_true_eq] at h1
    rw [kB (by omega), e] at h1
    omega
  by_cases q2 : v = 0
  · rw [if_pos (by simpa using q2)]
    refine wpS_pure (whole (fun p hp q hq => ?_) _ ok1 rfl rfl)
    have h1 := topC p hp
    have h2 := hiB q (by rw [q2]; exact hq)
    omega
  rw [if_neg (by simpa using q2)]
  have ex : ((arrOf st).extract (P.length + k) (P.length + C.length)).toList = C.drop k := by
    rw [ext_vi, List.drop_take, hlC, List.append_assoc, ← List.drop_drop, List.drop_left, List.drop_append_of_le_length k1, show P.length + C.length - (P.length + k) = (C.drop k).length by rw [List.length_drop]; omega, List.take_left]
  have ey : ((arrOf st).extract (P.length + C.length) (P.length + C.length + v)).toList = B.take v := by
    rw [ext_vi, List.drop_take, hlB, ← lPC, List.append_assoc, List.drop_left, show (P ++ C).length + v - (P ++ C).length = v by omega, List.take_append_of_le_length v1]
  generalize hx : (arrOf st).extract (P.length + k) (P.length + C.length) = x at ex ⊢
  generalize hy : (arrOf st).extract (P.length + C.length) (P.length + C.length + v) = y at ey ⊢
  have zx : x.size = C.length - k := by rw [← Array.length_toList, ex, List.length_drop]
  have zy : y.size = v := by rw [← Array.length_toList, ey, List.length_take]; omega
  have mr : Mr x y := by
    refine ⟨fun p hp => nC p (by rw [ex] at hp; exact List.mem_of_mem_drop hp), fun p hp => nB p (by rw [ey] at hp; exact List.mem_of_mem_take hp), by rw [ex]; exact iC.drop k, by rw [ey]; exact iB.take v, by omega, by omega, fun p hp q hq => ?_, fun p hp q hq => ?_⟩
    · rw [ey, List.take_take] at hp
      rw [ex] at hq
      have h1 := hiC q hq
      obtain ⟨t, ht, e⟩ := List.getElem_of_mem hp
      rw [List.length_take] at ht
      rw [List.getElem_take] at e
      have : t = 0 := by omega
      subst this
      rw [← e]; exact h1
    · rw [ex] at hp
      rw [ey] at hq
      have h1 := loB q hq
      rw [List.drop_drop] at hp
      obtain ⟨t, ht, e⟩ := List.getElem_of_mem hp
      rw [List.length_drop] at ht
      rw [List.getElem_drop] at e
      have e3 : k + (x.size - 1) + t = C.length - 1 := by omega
      have e4 : nk p = nk (C[C.length - 1]'(by omega)) := by rw [← e]; congr 2
      omega
  have done : ∀ (o : Array Keyed) (st' : SortSt), Keep (setPending st (((pendingOf st).setIfInBounds i (P.length, C.length + B.length, pw)).eraseIdxIfInBounds (i + 1))) st' → Out x.toList y.toList o.toList →
      wpS (model prog w) A E s (do
        modify fun s => setArr s (o.toList.zipIdx.foldl (fun a (p, j) => a.setIfInBounds (P.length + k + j) p) (arrOf s))
        return (failedOf (← get)).isNone : StateT SortSt Sem Bool) Q st' := fun o st' kp ho => by
    obtain ⟨hp, hi⟩ := ho
    rw [ex, ey] at hp
    have lo : o.toList.length = C.length - k + v := by rw [hp.length_eq, List.length_append, List.length_drop, List.length_take]; omega
    refine wpS_bind (wpS_modify ?_)
    refine wpS_bind (wpS_get ?_)
    have ea : arrOf st' = arrOf st := kp.a
    have ef : failedOf st' = none := kp.f.trans ok.f
    have el : (o.toList.zipIdx.foldl (fun a (p, j) => a.setIfInBounds (P.length + k + j) p) (arrOf st')).toList = P ++ (C.take k ++ o.toList ++ B.drop v) ++ S := by
      rw [ea]
      have := lay_list o.toList (arrOf st) (P.length + k) 0 (by rw [hsz, lo]; omega)
      rw [Nat.add_zero] at this
      rw [this, lo]
      have t1 : (arrOf st).toList.take (P.length + k) = P ++ C.take k := by
        rw [hlC, List.append_assoc, List.take_append, show P.length + k - P.length = k by omega, List.take_of_length_le (by omega), List.take_append_of_le_length k1]
      have t2 : (arrOf st).toList.drop (P.length + k + (C.length - k + v)) = B.drop v ++ S := by
        rw [hlB, show P.length + k + (C.length - k + v) = (P ++ C).length + v by rw [lPC]; omega, List.append_assoc, ← List.drop_drop, List.drop_left, List.drop_append_of_le_length v1]
      rw [t1, t2]; simp
    show wpS _ _ _ _ (pure ((failedOf st').isNone)) _ _
    rw [ef]
    refine wpS_pure (hQ _ (C.take k ++ o.toList ++ B.drop v) ⟨kp.k.trans ok1.k, fun p hp' => ?_, ef⟩ kp.p el ?_ ?_)
    · have hp' : p ∈ P ++ (C.take k ++ o.toList ++ B.drop v) ++ S := by rw [← el]; exact hp'
      refine ok.n p ?_
      rw [hl]
      simp only [List.mem_append] at hp' ⊢
      rcases hp' with (h | (h | h) | h) | h
      · exact .inl (.inl (.inl h))
      · exact .inl (.inl (.inr (List.mem_of_mem_take h)))
      · rcases List.mem_append.mp (hp.mem_iff.mp h) with h | h
        · exact .inl (.inl (.inr (List.mem_of_mem_drop h)))
        · exact .inl (.inr (List.mem_of_mem_take h))
      · exact .inl (.inr (List.mem_of_mem_drop h))
      · exact .inr h
    · refine ((hp.append_left _).append_right _).trans ?_
      rw [← List.append_assoc, List.take_append_drop, List.append_assoc, List.take_append_drop]
    · refine List.pairwise_append.mpr ⟨List.pairwise_append.mpr ⟨iC.take k, hi, fun p hp' q hq => ?_⟩, iB.drop v, fun p hp' q hq => ?_⟩
      · rcases List.mem_append.mp (hp.mem_iff.mp hq) with h | h
        · exact iC.split k p hp' q h
        · exact lowC p hp' q (List.mem_of_mem_take h)
      · rcases List.mem_append.mp hp' with h | h
        · exact lowC p h q (List.mem_of_mem_drop hq)
        · rcases List.mem_append.mp (hp.mem_iff.mp h) with h | h
          · have h1 := topC p (List.mem_of_mem_drop h)
            have h2 := hiB q hq
            omega
          · exact iB.split v p h q hq
  by_cases hle : C.length - k ≤ v
  · rw [if_pos hle]
    exact wpS_bind (wpS_mLo ok1.k mr fun o st' kp ho => done o st' kp ho)
  · rw [if_neg hle]
    exact wpS_bind (wpS_mHi ok1.k mr fun o st' kp ho => done o st' kp ho)
end
end Srt
set_option Elab.async false
set_option linter.all false
set_option maxRecDepth 100000
set_option maxHeartbeats 4000000
namespace Srt
open PySem PyProof.Rows
structure SB (lo : Nat) (st0 st : SortSt) : Prop where
  ok : Ok st
  perm : (arrOf st).Perm (arrOf st0)
  pend : pendingOf st = pendingOf st0
  pre : ∀ k, k < lo → (arrOf st)[k]? = (arrOf st0)[k]?
theorem SB.size {lo : Nat} {st0 st : SortSt} (h : SB lo st0 st) : (arrOf st).size = (arrOf st0).size := h.perm.size_eq
theorem SB.arr {lo : Nat} {st0 st : SortSt} (h : SB lo st0 st) {xs : Array Keyed} (hp : xs.Perm (arrOf st)) (hk : ∀ k, k < lo → xs[k]? = (arrOf st)[k]?) : SB lo st0 (setArr st xs) :=
  ⟨⟨h.ok.k, fun p hp' => h.ok.n p ((Array.perm_iff_toList_perm.mp hp).mem_iff.mp hp'), h.ok.f⟩, hp.trans h.perm, h.pend, fun k hk' => (hk k hk').trans (h.pre k hk')⟩
def SF (a : Array Keyed) (lo k : Nat) : Prop := ∀ i j, i ≤ j → j < k → K a (lo + i) ≤ K a (lo + j)
section
variable {prog : Program} {w : World} {A : Around} {E : Value → Shared → Prop} {s : Shared} {st st0 : SortSt} {lo : Nat}
theorem wpS_at {i j : Nat} {Q : Option Bool → SortSt → Prop} (ok : Ok st) (hi : i < (arrOf st).size) (hj : j < (arrOf st).size) (h : Q (some (decide (K (arrOf st) i < K (arrOf st) j))) st) : wpS (model prog w) A E s (ltAt' i j) Q st := by
  rw [ltAt'_eq]
  refine wpS_bind (wpS_get ?_)
  refine wpS_bind (wpS_elem (Array.getElem?_eq_getElem hi) (wpS_bind (wpS_elem (Array.getElem?_eq_getElem hj) (wpS_lt2 ok.k (ok.n _ (by simp)) (ok.n _ (by simp)) ?_))))
  rw [K_nk hi, K_nk hj] at h
  exact h
theorem wpS_bin {n o : Nat} {Q : Bool → SortSt → Prop} (hB : SB lo st0 st) (hn : lo + n ≤ (arrOf st0).size) (ho : o ≤ n) (hs : SF (arrOf st) lo o) (h : ∀ st', SB lo st0 st' → SF (arrOf st') lo n → Q true st') : wpS (model prog w) A E s (binarySort' lo n o) Q st := by
  rw [binarySort'_eq]
  refine wpS_bind (wpS_mono (wpS_forRange (I := fun k c st' => c = (none, ()) ∧ SB lo st0 st' ∧ SF (arrOf st') lo (min k n)) (Q := fun c st' => c = (none, ()) ∧ SB lo st0 st' ∧ SF (arrOf st') lo n) ?step ?fin ⟨rfl, hB, ?init⟩) ?post)
  case post =>
    rintro c st' ⟨rfl, hB', hs'⟩
    exact wpS_pure (h st' hB' hs')
  case fin =>
    rintro c st' ⟨hc, hB', hs'⟩
    rw [show min (max (max o 1) n) n = n by omega] at hs'
    exact ⟨hc, hB', hs'⟩
  case init =>
    intro i j hij hj
    by_cases h1 : o = 0
    · have : i = j := by omega
      subst this; exact Int.le_refl _
    · exact hs i j hij (by omega)
  case step =>
    rintro k c st' hak hkn ⟨rfl, hB', hs'⟩
    have hsz := hB'.size
    rw [show min k n = k by omega] at hs'
    refine wpS_bind (wpS_mono (wpS_forRange (I := fun t c st2 => st2 = st' ∧ ∃ l r, c = (none, l, r) ∧ l ≤ r ∧ r ≤ k ∧ r - l ≤ k - t ∧ (∀ i, i < l → K (arrOf st') (lo + i) ≤ K (arrOf st') (lo + k)) ∧ ∀ i, r ≤ i → i < k → K (arrOf st') (lo + k) < K (arrOf st') (lo + i))
      (Q := fun c st2 => st2 = st' ∧ ∃ l, c = (none, l, l) ∧ l ≤ k ∧ (∀ i, i < l → K (arrOf st') (lo + i) ≤ K (arrOf st') (lo + k)) ∧ ∀ i, l ≤ i → i < k → K (arrOf st') (lo + k) < K (arrOf st') (lo + i)) ?js ?jf ⟨rfl, 0, k, rfl, by omega, by omega, by omega, fun i hi => by omega, fun i h1 h2 => by omega⟩) ?jp)
    case jf =>
      rintro c st2 ⟨rfl, l, r, rfl, b1, b2, b3, b4, b5⟩
      have : l = r := by omega
      subst this
      exact ⟨rfl, l, rfl, b2, b4, b5⟩
    case js =>
      rintro t c st2 _ ht ⟨rfl, l, r, rfl, b1, b2, b3, b4, b5⟩
      dsimp only
      by_cases hge : l ≥ r
      · rw [if_pos hge]
        have : l = r := by omega
        subst this
        exact wpS_pure ⟨rfl, l, rfl, b2, b4, b5⟩
      · rw [if_neg hge]
        refine wpS_bind (wpS_at hB'.ok (by omega) (by omega) ?_)
        dsimp only
        by_cases hl : K (arrOf st2) (lo + k) < K (arrOf st2) (lo + (l + r) / 2)
        · simp only [hl, decide_true, if_true]
          exact wpS_pure ⟨rfl, _, _, rfl, by omega, by omega, by omega, b4, fun i h1 h2 => Int.lt_of_lt_of_le hl (hs' _ _ h1 h2)⟩
        · simp only [hl, decide_false, Bool.false_eq_true, if_false]
          exact wpS_pure ⟨rfl, _, _, rfl, by omega, by omega, by omega, fun i h1 => Int.le_trans (hs' i ((l + r) / 2) (by omega) (by omega)) (Int.not_lt.mp hl), b5⟩
    case jp =>
      rintro c st2 ⟨rfl, l, rfl, b1, b2, b3⟩
      dsimp only
      rw [moveDown'_eq]
      have hks : lo + k < (arrOf st2).size := by omega
      refine wpS_bind (wpS_modify (wpS_pure ⟨rfl, hB'.arr (bubble_perm _ _ _) (fun q hq => ?_), ?_⟩))
      · rw [getElem?_bubble hks _ (by omega), if_neg (by omega), if_neg (by omega)]
      · rw [show min (k + 1) n = k + 1 by omega]
        intro i j hij hj
        show K (bubble (arrOf st2) (lo + k) (lo + k - (lo + l))) (lo + i) ≤ K (bubble (arrOf st2) (lo + k) (lo + k - (lo + l))) (lo + j)
        rw [K_bubble hks (by omega), K_bubble hks (by omega), show lo + k - (lo + k - (lo + l)) = lo + l by omega]
        by_cases i1 : i < l
        · rw [if_neg (by omega), if_neg (by omega)]
          by_cases j1 : j < l
          · rw [if_neg (by omega), if_neg (by omega)]; exact hs' i j hij (by omega)
          · by_cases j2 : j = l
            · rw [if_pos (by omega)]; exact b2 i i1
            · rw [if_neg (by omega), if_pos (by omega), show lo + j - 1 = lo + (j - 1) by omega]
              exact hs' i (j - 1) (by omega) (by omega)
        · by_cases i2 : i = l
          · rw [if_pos (by omega)]
            by_cases j2 : j = l
            · rw [if_pos (by omega)]; exact Int.le_refl _
            · rw [if_neg (by omega), if_pos (by omega), show lo + j - 1 = lo + (j - 1) by omega]
              exact Int.le_of_lt (b3 _ (by omega) (by omega))
          · rw [if_neg (by omega), if_pos (by omega), if_neg (by omega), if_pos (by omega), show lo + j - 1 = lo + (j - 1) by omega, show lo + i - 1 = lo + (i - 1) by omega]
            exact hs' _ _ (by omega) (by omega)
end
end Srt
set_option Elab.async false
set_option linter.all false
set_option maxRecDepth 100000
set_option maxHeartbeats 4000000
namespace Srt
open PySem PyProof.Rows
section
variable {prog : Program} {w : World} {A : Around} {E : Value → Shared → Prop} {s : Shared} {st st0 : SortSt} {lo : Nat}
def NI (a : Array Keyed) (lo k : Nat) : Prop := ∀ i j, i ≤ j → j < k → K a (lo + j) ≤ K a (lo + i)
theorem SF.one {a : Array Keyed} {lo : Nat} : SF a lo 1 := fun i j hij hj => by
  have : i = j := by omega
  subst this; exact Int.le_refl _
theorem SF.more {a : Array Keyed} {lo n : Nat} (h : SF a lo n) (h1 : 1 ≤ n) (hn : ¬ K a (lo + n) < K a (lo + n - 1)) : SF a lo (n + 1) := fun i j hij hj => by
  by_cases hjn : j < n
  · exact h i j hij hjn
  · have : j = n := by omega
    subst this
    by_cases hi : i = j
    · subst hi; exact Int.le_refl _
    · have := h i (j - 1) (by omega) (by omega)
      rw [show lo + (j - 1) = lo + j - 1 by omega] at this
      omega
theorem NI.more {a : Array Keyed} {lo n : Nat} (h : NI a lo n) (h1 : 1 ≤ n) (hn : K a (lo + n) ≤ K a (lo + n - 1)) : NI a lo (n + 1) := fun i j hij hj => by
  by_cases hjn : j < n
  · exact h i j hij hjn
  · have : j = n := by omega
    subst this
    by_cases hi : i = j
    · subst hi; exact Int.le_refl _
    · have := h i (j - 1) (by omega) (by omega)
      rw [show lo + (j - 1) = lo + j - 1 by omega] at this
      omega
theorem SB.mir {i j : Nat} (h : SB lo st0 st) (hi : lo ≤ i) (hj : j ≤ (arrOf st).size) : SB lo st0 (setArr st (mirror (arrOf st) i j ((j - i) / 2))) :=
  h.arr (mirror_perm _ _ _ _) fun k hk => by rw [getElem?_mirror_all hj, if_neg (by omega)]
theorem wpS_rev {i j : Nat} {Q : Unit → SortSt → Prop} (h : Q () (setArr st (mirror (arrOf st) i j ((j - i) / 2)))) : wpS (model prog w) A E s (reverseSlice' i j) Q st := by
  rw [reverseSlice'_eq]; exact wpS_modify h
theorem wpS_asc {a nrem : Nat} {Q : Option (Option Nat) × Nat → SortSt → Prop} (hB : SB lo st0 st) (hn : lo + nrem ≤ (arrOf st0).size) (ha : 1 ≤ a) (han : a ≤ nrem) (hs : SF (arrOf st) lo a)
    (h : ∀ n, a ≤ n → n ≤ nrem → SF (arrOf st) lo n → (n = nrem ∨ K (arrOf st) (lo + n) < K (arrOf st) (lo + n - 1)) → Q (none, n) st) :
    wpS (model prog w) A E s (forIn [a:nrem] ((none, a) : Option (Option Nat) × Nat) fun _ c => do
      let x ← ltAt' (lo + c.2) (lo + c.2 - 1)
      match x with
      | some m => if m = true then pure (ForInStep.done (none, c.2)) else pure (ForInStep.yield (none, c.2 + 1))
      | _ => pure (ForInStep.done (some none, c.2))) Q st := by
  have hsz := hB.size
  refine wpS_forRange (I := fun x c st' => st' = st ∧ c = (none, x) ∧ SF (arrOf st) lo x) ?step ?fin ⟨rfl, rfl, hs⟩
  case fin =>
    rintro c st' ⟨rfl, rfl, hs'⟩
    rw [show max a nrem = nrem by omega] at hs' ⊢
    exact h nrem han (Nat.le_refl _) hs' (.inl rfl)
  case step =>
    rintro x c st' hax hxn ⟨rfl, rfl, hs'⟩
    dsimp only
    refine wpS_bind (wpS_at hB.ok (by omega) (by omega) ?_)
    by_cases hl : K (arrOf st') (lo + x) < K (arrOf st') (lo + x - 1)
    · simp only [hl, decide_true, if_true]
      exact wpS_pure (h x hax (by omega) hs' (.inr hl))
    · simp only [hl, decide_false, Bool.false_eq_true, if_false]
      exact wpS_pure ⟨rfl, rfl, hs'.more (by omega) hl⟩
theorem mir_K {xs : Array Keyed} {i j : Nat} (hj : j ≤ xs.size) (k : Nat) : K (mirror xs i j ((j - i) / 2)) k = if i ≤ k ∧ k < j then K xs (i + j - 1 - k) else K xs k := K_mirror hj k
theorem mir_same {xs : Array Keyed} {i j : Nat} (hj : j ≤ xs.size) (he : ∀ k, i ≤ k → k < j → K xs k = K xs (j - 1)) (k : Nat) : K (mirror xs i j ((j - i) / 2)) k = K xs k := K_mirror_equal hj he k
theorem wpS_run {nrem : Nat} {Q : Option Nat → SortSt → Prop} (hB : SB lo st0 st) (hn : lo + nrem ≤ (arrOf st0).size) (h1 : 1 ≤ nrem)
    (h : ∀ m st', SB lo st0 st' → 1 ≤ m → m ≤ nrem → SF (arrOf st') lo m → Q (some m) st') : wpS (model prog w) A E s (countRun' lo nrem) Q st := by
  rw [countRun'_eq]
  dsimp only
  have hsz := hB.size
  refine wpS_bind (wpS_asc hB hn (Nat.le_refl 1) h1 SF.one fun n n1 n2 n3 n4 => ?_)
  dsimp only
  by_cases q1 : n = nrem
  · rw [if_pos (by simpa using q1)]
    exact wpS_pure (h n st hB n1 n2 n3)
  rw [if_neg (by simpa using q1)]
  have hlt := n4.resolve_left q1
  by_cases q2 : n > 1
  rw [if_pos q2]
  refine wpS_bind (wpS_at hB.ok (by omega) (by omega) ?_)
  dsimp only
  by_cases q3 : K (arrOf st) lo < K (arrOf st) (lo + n - 1)
  · simp only [q3, decide_true, if_true]
    exact wpS_pure (h n st hB n1 n2 n3)
  simp only [q3, decide_false, Bool.false_eq_true, if_false]
  have hall : ∀ k, lo ≤ k → k < lo + n → K (arrOf st) k = K (arrOf st) (lo + n - 1) := fun k a b => by
    have a1 := n3 0 (k - lo) (by omega) (by omega)
    have a2 := n3 (k - lo) (n - 1) (by omega) (by omega)
    rw [Nat.add_zero, show lo + (k - lo) = k by omega] at a1
    rw [show lo + (k - lo) = k by omega, show lo + (n - 1) = lo + n - 1 by omega] at a2
    omega
  refine wpS_bind (wpS_rev ?_)
  have hB1 := hB.mir (i := lo) (j := lo + n) (Nat.le_refl _) (by omega)
  have hN1 : NI (arrOf (setArr st (mirror (arrOf st) lo (lo + n) ((lo + n - lo) / 2)))) lo (n + 1) := by
    intro i j hij hj
    show K (mirror (arrOf st) lo (lo + n) ((lo + n - lo) / 2)) (lo + j) ≤ K (mirror (arrOf st) lo (lo + n) ((lo + n - lo) / 2)) (lo + i)
    rw [mir_same (by omega) hall, mir_same (by omega) hall]
    by_cases hjn : j < n
    · rw [hall _ (by omega) (by omega), hall (lo + i) (by omega) (by omega)]; exact Int.le_refl _
    · have : j = n := by omega
      subst this
      by_cases hi : i = j
      · subst hi; exact Int.le_refl _
      · rw [hall (lo + i) (by omega) (by omega)]; exact Int.le_of_lt hlt
  generalize setArr st (mirror (arrOf st) lo (lo + n) ((lo + n - lo) / 2)) = st1 at hB1 hN1 ⊢
  rotate_left
  rw [if_neg q2]
  have hn1 : n = 1 := by omega
  have hB1 := hB
  have hN1 : NI (arrOf st) lo (n + 1) := NI.more (fun i j hij hj => by
    have : i = j := by omega
    subst this; exact Int.le_refl _) (by omega) (Int.le_of_lt hlt)
  clear hB n3 n4 hlt hsz
  generalize st = st1 at hB1 hN1 ⊢
  all_goals
    have hsz1 := hB1.size
    refine wpS_bind (wpS_lift (wpAny_rule ⟨rfl, ?_⟩))
    refine wpS_bind (wpS_mono (wpS_forRange (I := fun x c st' => ∃ q, c = (none, x, q) ∧ SB lo st0 st' ∧ NI (arrOf st') lo x ∧ q + 1 ≤ x ∧ ∀ i, lo + x - (q + 1) ≤ i → i < lo + x → K (arrOf st') i = K (arrOf st') (lo + x - 1))
      (Q := fun c st' => ∃ x q, c = (none, x, q) ∧ n + 1 ≤ x ∧ x ≤ nrem ∧ SB lo st0 st' ∧ NI (arrOf st') lo x ∧ q + 1 ≤ x ∧ ∀ i, lo + x - (q + 1) ≤ i → i < lo + x → K (arrOf st') i = K (arrOf st') (lo + x - 1)) ?step ?fin ⟨0, rfl, hB1, hN1, by omega, fun i a b => by congr 1; omega⟩) ?post)
    case fin =>
      rintro c st' ⟨q, rfl, b1, b2, b3, b4⟩
      rw [show max (n + 1) nrem = nrem by omega] at *
      exact ⟨nrem, q, rfl, by omega, by omega, b1, b2, b3, b4⟩
    case step =>
      rintro x c st' hx1 hx2 ⟨q, rfl, b1, b2, b3, b4⟩
      dsimp only
      have hz := b1.size
      refine wpS_bind (wpS_at b1.ok (by omega) (by omega) ?_)
      dsimp only
      by_cases hl : K (arrOf st') (lo + x) < K (arrOf st') (lo + x - 1)
      · simp only [hl, decide_true, if_true]
        by_cases hq : q > 0
        · rw [if_pos hq]
          refine wpS_bind (wpS_rev (wpS_pure ⟨0, rfl, b1.mir (by omega) (by omega), fun i j hij hj => ?_, by omega, fun i a b => by congr 1; omega⟩))
          show K (mirror (arrOf st') _ _ _) _ ≤ K (mirror (arrOf st') _ _ _) _
          rw [mir_same (by omega) (fun k a b => b4 k (by omega) b), mir_same (by omega) (fun k a b => b4 k (by omega) b)]
          exact b2.more (by omega) (Int.le_of_lt hl) i j hij hj
        · rw [if_neg hq]
          exact wpS_pure ⟨0, rfl, b1, b2.more (by omega) (Int.le_of_lt hl), by omega, fun i a b => by congr 1; omega⟩
      · simp only [hl, decide_false, Bool.false_eq_true, if_false]
        refine wpS_bind (wpS_at b1.ok (by omega) (by omega) ?_)
        dsimp only
        by_cases hl2 : K (arrOf st') (lo + x - 1) < K (arrOf st') (lo + x)
        · simp only [hl2, decide_true, if_true]
          exact wpS_pure ⟨x, q, rfl, by omega, by omega, b1, b2, b3, b4⟩
        · simp only [hl2, decide_false, Bool.false_eq_true, if_false]
          have he : K (arrOf st') (lo + x) = K (arrOf st') (lo + x - 1) := by omega
          refine wpS_pure ⟨q + 1, rfl, b1, b2.more (by omega) (by omega), by omega, fun i a b => ?_⟩
          rw [show lo + (x + 1) - 1 = lo + x by omega]
          by_cases hi : i = lo + x
          · rw [hi]
          · rw [he]; exact b4 i (by omega) (by omega)
    case post =>
      rintro c st' ⟨x, q, rfl, c1, c2, b1, b2, b3, b4⟩
      dsimp only
      have hz := b1.size
      by_cases hq : q > 0
      rw [if_pos hq]
      refine wpS_bind (wpS_rev ?_)
      have b1' := b1.mir (i := lo + x - (q + 1)) (j := lo + x) (by omega) (by omega)
      have b2' : NI (arrOf (setArr st' (mirror (arrOf st') (lo + x - (q + 1)) (lo + x) ((lo + x - (lo + x - (q + 1))) / 2)))) lo x := fun i j hij hj => by
        show K (mirror (arrOf st') _ _ _) _ ≤ K (mirror (arrOf st') _ _ _) _
        rw [mir_same (by omega) b4, mir_same (by omega) b4]
        exact b2 i j hij hj
      generalize setArr st' (mirror (arrOf st') (lo + x - (q + 1)) (lo + x) ((lo + x - (lo + x - (q + 1))) / 2)) = st2 at b1' b2' ⊢
      rotate_left
      rw [if_neg hq]
      have b1' := b1
      have b2' := b2
      clear b1 b2 b4 hz
      generalize st' = st2 at b1' b2' ⊢
      all_goals
        have hz2 := b1'.size
        refine wpS_bind (wpS_rev ?_)
        have b3' := b1'.mir (i := lo) (j := lo + x) (Nat.le_refl _) (by omega)
        refine wpS_bind (wpS_asc b3' hn (by omega) c2 (fun i j hij hj => ?_) fun m m1 m2 m3 _ => ?_)
        · show K (mirror (arrOf st2) lo (lo + x) _) _ ≤ K (mirror (arrOf st2) lo (lo + x) _) _
          rw [mir_K (by omega), mir_K (by omega), if_pos (by omega), if_pos (by omega), show lo + (lo + x) - 1 - (lo + i) = lo + (x - 1 - i) by omega, show lo + (lo + x) - 1 - (lo + j) = lo + (x - 1 - j) by omega]
          exact b2' _ _ (by omega) (by omega)
        · exact wpS_pure (h m _ b3' (by omega) m2 m3)
end
end Srt
set_option Elab.async false
set_option linter.all false
set_option maxRecDepth 100000
set_option maxHeartbeats 4000000
namespace Srt
open PySem PyProof.Rows
def Pd : Nat → List (List Keyed) → List (Nat × Nat × Nat) → Prop
  | _, [], [] => True
  | o, R :: rs, (a, n, _) :: ps => a = o ∧ n = R.length ∧ Pd (o + R.length) rs ps
  | _, _, _ => False
theorem Pd.len : ∀ {o : Nat} {rs : List (List Keyed)} {ps : List (Nat × Nat × Nat)}, Pd o rs ps → ps.length = rs.length
  | _, [], [], _ => rfl
  | _, R :: rs, (a, n, w) :: ps, h => by rw [List.length_cons, List.length_cons, Pd.len h.2.2]
  | _, [], _ :: _, h => h.elim
  | _, _ :: _, [], h => h.elim
theorem Pd.merge : ∀ {o : Nat} {rs1 : List (List Keyed)} {C B : List Keyed} {rs2 : List (List Keyed)} {ps : List (Nat × Nat × Nat)}, Pd o (rs1 ++ C :: B :: rs2) ps →
    ∃ pw pw', ps[rs1.length]? = some (o + rs1.flatten.length, C.length, pw) ∧ ps[rs1.length + 1]? = some (o + rs1.flatten.length + C.length, B.length, pw') ∧ ∀ R : List Keyed, R.length = C.length + B.length → Pd o (rs1 ++ R :: rs2) ((ps.set rs1.length (o + rs1.flatten.length, C.length + B.length, pw)).eraseIdx (rs1.length + 1))
  | o, [], C, B, rs2, (a, n, w) :: (a', n', w') :: ps, h => by
    obtain ⟨rfl, rfl, rfl, rfl, h⟩ := h
    refine ⟨w, w', by simp, by simp, fun R hR => ?_⟩
    exact ⟨by simp, by rw [hR], by rw [hR, ← Nat.add_assoc]; exact h⟩
  | o, D :: rs1, C, B, rs2, (a, n, w) :: ps, h => by
    obtain ⟨rfl, rfl, h⟩ := h
    obtain ⟨pw, pw', h1, h2, h3⟩ := Pd.merge h
    have e : a + (D :: rs1).flatten.length = a + D.length + rs1.flatten.length := by simp; omega
    refine ⟨pw, pw', ?_, ?_, fun R hR => ⟨rfl, rfl, ?_⟩⟩
    · rw [e]; exact h1
    · rw [e]; exact h2
    · rw [e]; exact h3 R hR
  | _, [], _, _, _, [], h => h.elim
  | _, [], _, _, _, [_], h => by obtain ⟨_, _, h⟩ := h; exact h.elim
  | _, _ :: _, _, _, _, [], h => h.elim
theorem Pd.snoc : ∀ {o : Nat} {rs : List (List Keyed)} {R : List Keyed} {ps : List (Nat × Nat × Nat)}, Pd o rs ps → Pd o (rs ++ [R]) (ps ++ [(o + rs.flatten.length, R.length, 0)])
  | o, [], R, [], _ => ⟨by simp, rfl, trivial⟩
  | o, D :: rs, R, (a, n, w) :: ps, h => by
    obtain ⟨rfl, rfl, h⟩ := h
    refine ⟨rfl, rfl, ?_⟩
    have := Pd.snoc (R := R) h
    rw [show a + (D :: rs).flatten.length = a + D.length + rs.flatten.length by simp; omega]
    exact this
  | _, [], _, _ :: _, h => h.elim
  | _, _ :: _, _, [], h => h.elim
theorem Pd.modify {o : Nat} {rs : List (List Keyed)} {pw : Nat} : ∀ {o : Nat} {rs : List (List Keyed)} {ps : List (Nat × Nat × Nat)} (i : Nat), Pd o rs ps → Pd o rs (ps.modify i fun (a, n, _) => (a, n, pw))
  | o, [], [], i, _ => by simp; trivial
  | o, R :: rs, (a, n, w) :: ps, 0, h => h
  | o, R :: rs, (a, n, w) :: ps, i + 1, h => ⟨h.1, h.2.1, Pd.modify (o := o) (rs := rs) i h.2.2⟩
  | _, [], _ :: _, _, h => h.elim
  | _, _ :: _, [], _, h => h.elim
structure RI (a₀ : Array Keyed) (st : SortSt) (runs : List (List Keyed)) (T : List Keyed) : Prop where
  ok : Ok st
  perm : (arrOf st).Perm a₀
  lst : (arrOf st).toList = runs.flatten ++ T
  pd : Pd 0 runs (pendingOf st).toList
  inc : ∀ R ∈ runs, Inc R ∧ 0 < R.length
section
variable {prog : Program} {w : World} {A : Around} {E : Value → Shared → Prop} {s : Shared} {st : SortSt} {a₀ : Array Keyed} {runs : List (List Keyed)} {T : List Keyed}
theorem RI.psize (h : RI a₀ st runs T) : (pendingOf st).size = runs.length := by rw [← Array.length_toList]; exact h.pd.len
theorem RI.alen (h : RI a₀ st runs T) : runs.flatten.length + T.length = a₀.size := by
  have := congrArg List.length h.lst
  rw [List.length_append, Array.length_toList, h.perm.size_eq] at this
  omega
theorem wpS_mAtR {i : Nat} {Q : Bool → SortSt → Prop} (h : RI a₀ st runs T) (hi : i + 1 < runs.length) (hQ : ∀ st' runs', RI a₀ st' runs' T → runs'.length + 1 = runs.length → Q true st') : wpS (model prog w) A E s (mergeAt' i) Q st := by
  obtain ⟨rs1, C, B, rs2, rfl, rfl⟩ : ∃ rs1 C B rs2, runs = rs1 ++ C :: B :: rs2 ∧ rs1.length = i := by
    refine ⟨runs.take i, runs[i], runs[i + 1], runs.drop (i + 2), ?_, by rw [List.length_take]; omega⟩
    rw [← List.drop_eq_getElem_cons, ← List.drop_eq_getElem_cons, List.take_append_drop]
  obtain ⟨pw, pw', h1, h2, h3⟩ := Pd.merge h.pd
  rw [Nat.zero_add] at h1 h2 h3
  have iC := h.inc C (by simp)
  have iB := h.inc B (by simp)
  refine wpS_mAt (P := rs1.flatten) (C := C) (B := B) (S := rs2.flatten ++ T) (pw := pw) (pw' := pw') h.ok (by rw [← Array.getElem?_toList]; exact h1) (by rw [← Array.getElem?_toList]; exact h2) (by rw [h.lst]; simp) iC.2 iB.2 iC.1 iB.1 fun st' R o1 o2 o3 o4 o5 => ?_
  have lR : R.length = C.length + B.length := by rw [o4.length_eq, List.length_append]
  refine hQ st' (rs1 ++ R :: rs2) ⟨o1, ?_, by rw [o3]; simp, ?_, fun D hD => ?_⟩ (by simp; omega)
  · refine Array.perm_iff_toList_perm.mpr ?_
    refine List.Perm.trans ?_ (Array.perm_iff_toList_perm.mp h.perm)
    rw [o3, h.lst]
    simp only [List.flatten_append, List.flatten_cons, List.append_assoc]
    refine List.Perm.append_left _ ?_
    rw [← List.append_assoc C]
    exact List.Perm.append_right _ o4
  · rw [o2]
    have := h3 R lR
    rw [Array.toList_eraseIdxIfInBounds, Array.toList_setIfInBounds]
    exact this
  · simp only [List.mem_append, List.mem_cons] at hD
    rcases hD with hD | rfl | hD
    · exact h.inc D (by simp [hD])
    · exact ⟨o5, by omega⟩
    · exact h.inc D (by simp [hD])
theorem RI.cut {st2 : SortSt} {n : Nat} (h : RI a₀ st runs T) (b : SB runs.flatten.length st st2) (hs : SF (arrOf st2) runs.flatten.length n) (hn : runs.flatten.length + n ≤ a₀.size) (h0 : 0 < n) :
    ∃ R T', R.length = n ∧ Inc R ∧ RI a₀ st2 runs (R ++ T') := by
  have hsz : (arrOf st2).size = a₀.size := b.size.trans h.perm.size_eq
  have hz2 : (arrOf st2).toList.length = a₀.size := by rw [Array.length_toList]; exact hsz
  refine ⟨((arrOf st2).toList.drop runs.flatten.length).take n, (arrOf st2).toList.drop (runs.flatten.length + n), ?_, ?_, b.ok, b.perm.trans h.perm, ?_, by rw [b.pend]; exact h.pd, h.inc⟩
  · rw [List.length_take, List.length_drop]; omega
  · refine List.pairwise_iff_getElem.mpr fun i j hi hj hij => ?_
    rw [List.length_take, List.length_drop] at hi hj
    have := hs i j (by omega) (by omega)
    rw [K_nk (by omega), K_nk (by omega)] at this
    simpa [List.getElem_take, List.getElem_drop] using this
  · have e1 : (arrOf st2).toList.take runs.flatten.length = runs.flatten := by
      have : (arrOf st2).toList.take runs.flatten.length = (arrOf st).toList.take runs.flatten.length := by
        apply List.ext_getElem?
        intro k
        by_cases hk : k < runs.flatten.length
        · rw [List.getElem?_take_of_lt hk, List.getElem?_take_of_lt hk, Array.getElem?_toList, Array.getElem?_toList]
          exact b.pre k hk
        · rw [List.getElem?_eq_none (by rw [List.length_take]; omega), List.getElem?_eq_none (by rw [List.length_take]; omega)]
      rw [this, h.lst, List.take_left]
    have e2 : ((arrOf st2).toList.drop runs.flatten.length).take n ++ (arrOf st2).toList.drop (runs.flatten.length + n) = (arrOf st2).toList.drop runs.flatten.length := by
      rw [← List.drop_drop, List.take_append_drop]
    rw [e2]
    have := List.take_append_drop runs.flatten.length (arrOf st2).toList
    rw [e1] at this
    exact this.symm
theorem RI.push {R : List Keyed} {T' : List Keyed} (h : RI a₀ st runs (R ++ T')) (iR : Inc R) (l0 : 0 < R.length) {lo : Nat} (hlo : runs.flatten.length = lo) : RI a₀ (setPending st ((pendingOf st).push (lo, R.length, 0))) (runs ++ [R]) T' := by
  refine ⟨⟨h.ok.k, h.ok.n, h.ok.f⟩, h.perm, by show (arrOf st).toList = _; rw [h.lst]; simp, ?_, fun D hD => ?_⟩
  · show Pd 0 (runs ++ [R]) ((pendingOf st).push (lo, R.length, 0)).toList
    rw [Array.toList_push]
    have := h.pd.snoc (R := R)
    rw [Nat.zero_add, hlo] at this
    exact this
  · rcases List.mem_append.mp hD with hD | hD
    · exact h.inc D hD
    · rw [List.mem_singleton.mp hD]; exact ⟨iR, l0⟩
theorem RI.mod {pw i : Nat} (h : RI a₀ st runs T) : RI a₀ (setPending st ((pendingOf st).modify i fun (a, n, _) => (a, n, pw))) runs T := by
  refine ⟨⟨h.ok.k, h.ok.n, h.ok.f⟩, h.perm, h.lst, ?_, h.inc⟩
  show Pd 0 runs ((pendingOf st).modify i fun (a, n, _) => (a, n, pw)).toList
  rw [Array.toList_modify]
  exact Pd.modify (o := 0) (rs := runs) i h.pd
theorem wpS_all {Q : Unit → SortSt → Prop} (ok : Ok st) (hp : pendingOf st = #[]) (h2 : 2 ≤ (arrOf st).size)
    (h : ∀ st', (arrOf st').Perm (arrOf st) → failedOf st' = none → SortedTo (arrOf st') (arrOf st).size → Q () st') : wpS (model prog w) A E s sortRuns' Q st := by
  rw [sortRuns'_eq]
  refine wpS_bind (wpS_get ?_)
  dsimp only
  generalize ha : arrOf st = a₀ at *
  have hR0 : RI a₀ st [] a₀.toList := ⟨ok, by rw [ha], by rw [ha]; rfl, by rw [hp]; trivial, fun R hR => nomatch hR⟩
  generalize minRun' a₀.size a₀.size 0 = mr
  refine wpS_bind (wpS_mono (wpS_forRange (I := fun x c st' => ∃ lo runs T, c = (none, lo) ∧ RI a₀ st' runs T ∧ runs.flatten.length = lo ∧ x ≤ lo)
    (Q := fun c st' => ∃ runs, c = (none, a₀.size) ∧ RI a₀ st' runs []) ?step ?fin ⟨0, [], _, rfl, hR0, rfl, Nat.le_refl _⟩) ?post)
  case fin =>
    rintro c st' ⟨lo, runs, T, rfl, ri, hl, hx⟩
    have := ri.alen
    have hT : T = [] := List.length_eq_zero_iff.mp (by omega)
    subst hT
    rw [List.length_nil, Nat.add_zero] at this
    exact ⟨runs, by rw [← this, hl], ri⟩
  case step =>
    rintro x c st' _ hx ⟨lo, runs, T, rfl, ri, hl, hxl⟩
    have hal := ri.alen
    dsimp only
    by_cases hge : lo ≥ a₀.size
    · rw [if_pos hge]
      have hT : T = [] := List.length_eq_zero_iff.mp (by omega)
      subst hT
      rw [List.length_nil, Nat.add_zero] at hal
      exact wpS_pure ⟨runs, by rw [← hal, hl], ri⟩
    rw [if_neg hge]
    have hz : (arrOf st').size = a₀.size := ri.perm.size_eq
    subst hl
    have hB : SB runs.flatten.length st' st' := ⟨ri.ok, Array.Perm.refl _, rfl, fun _ _ => rfl⟩
    refine wpS_bind (wpS_run hB (by omega) (by omega) fun m st2 b m1 m2 m3 => ?_)
    dsimp only
    by_cases hmr : m < mr
    rw [if_pos hmr]
    refine wpS_bind (wpS_lift (wpAny_rule ⟨rfl, ?_⟩))
    refine wpS_bind (wpS_bin b (show runs.flatten.length + min (a₀.size - runs.flatten.length) mr ≤ (arrOf st').size by omega) (by omega) m3 fun st3 b3 hs3 => ?_)
    simp only [Bool.not_true, Bool.false_eq_true, if_false]
    have hn0 : 0 < min (a₀.size - runs.flatten.length) mr := by omega
    have hn1 : runs.flatten.length + min (a₀.size - runs.flatten.length) mr ≤ a₀.size := by omega
    generalize min (a₀.size - runs.flatten.length) mr = n at hs3 hn0 hn1 ⊢
    rotate_left
    rw [if_neg hmr]
    have b3 := b
    have hs3 := m3
    have hn0 : 0 < m := by omega
    have hn1 : runs.flatten.length + m ≤ a₀.size := by omega
    clear b m3 m1 m2 hmr
    generalize m = n at hs3 hn0 hn1 ⊢
    generalize st2 = st3 at b3 hs3 ⊢
    all_goals
      obtain ⟨R, T', lR, iR, ri2⟩ := ri.cut b3 hs3 hn1 hn0
      refine wpS_bind (wpS_get ?_)
      cases hb : (pendingOf st3).back? with
      | none =>
        dsimp only
        refine wpS_bind (wpS_modify (wpS_pure ⟨_, runs ++ [R], T', rfl, ?_, by simp; omega, by omega⟩))
        rw [← lR]
        exact ri2.push iR (by omega) rfl
      | some t =>
        obtain ⟨s1, n1, w1⟩ := t
        dsimp only
        generalize power' a₀.size (2 * s1 + n1) (2 * s1 + n1 + n1 + n) a₀.size = pw
        refine wpS_bind (wpS_mono (wpS_forRange (I := fun x c st4 => c = (none, ()) ∧ ∃ runs', RI a₀ st4 runs' (R ++ T')) (Q := fun c st4 => c = (none, ()) ∧ ∃ runs', RI a₀ st4 runs' (R ++ T')) ?_ (fun c st4 q => q) ⟨rfl, runs, ri2⟩) ?_)
        · rintro x c st4 _ _ ⟨rfl, runs', ri4⟩
          refine wpS_bind (wpS_get ?_)
          have hps := ri4.psize
          by_cases hp1 : (pendingOf st4).size > 1
          · have e : (pendingOf st4)[(pendingOf st4).size - 2]? = some ((pendingOf st4)[(pendingOf st4).size - 2]'(by omega)) := Array.getElem?_eq_getElem _
            rw [if_pos hp1, e]
            dsimp only
            split
            · exact wpS_pure ⟨rfl, runs', ri4⟩
            · refine wpS_bind (wpS_mAtR ri4 (by omega) fun st5 runs5 ri5 _ => ?_)
              simp only [Bool.not_true, Bool.false_eq_true, if_false]
              exact wpS_pure ⟨rfl, runs5, ri5⟩
          · rw [if_neg hp1]
            exact wpS_pure ⟨rfl, runs', ri4⟩
        · rintro c st4 ⟨rfl, runs', ri4⟩
          dsimp only
          have hal2 := ri2.alen
          have hal4 := ri4.alen
          have hfl : runs'.flatten.length = runs.flatten.length := by omega
          refine wpS_bind (wpS_modify (wpS_bind (wpS_modify (wpS_pure ⟨_, runs' ++ [R], T', rfl, ?_, by rw [List.flatten_append, List.length_append, hfl]; simp; omega, by omega⟩))))
          rw [← lR]
          exact (ri4.mod (pw := pw)).push iR (by omega) hfl
  case post =>
    rintro c st' ⟨runs, rfl, ri⟩
    dsimp only
    have hal := ri.alen
    have hrl : runs.length ≤ a₀.size := by
      rw [List.length_nil, Nat.add_zero] at hal
      rw [← hal]
      have : ∀ l : List (List Keyed), (∀ R ∈ l, Inc R ∧ 0 < R.length) → l.length ≤ l.flatten.length := by
        intro l
        induction l with
        | nil => intro _; exact Nat.le_refl _
        | cons D l ih =>
          intro hl
          have a1 := (hl D List.mem_cons_self).2
          have a2 := ih fun R hR => hl R (List.mem_cons_of_mem _ hR)
          rw [List.flatten_cons, List.length_append, List.length_cons]; omega
      exact this runs ri.inc
    refine wpS_bind (wpS_mono (wpS_forRange (I := fun x c st4 => c = (none, ()) ∧ ∃ runs', RI a₀ st4 runs' [] ∧ (runs'.length ≤ 1 ∨ runs'.length + x ≤ a₀.size)) (Q := fun c st4 => c = (none, ()) ∧ ∃ runs', RI a₀ st4 runs' [] ∧ runs'.length ≤ 1) ?_ ?_ ⟨rfl, runs, ri, .inr (by omega)⟩) ?_)
    · rintro x c st4 _ hx ⟨rfl, runs', ri4, hr⟩
      refine wpS_bind (wpS_get ?_)
      have hps := ri4.psize
      by_cases hp1 : (pendingOf st4).size ≤ 1
      · rw [if_pos hp1]
        exact wpS_pure ⟨rfl, runs', ri4, by omega⟩
      · rw [if_neg hp1]
        refine wpS_bind (wpS_mAtR ri4 ?_ fun st5 runs5 ri5 h5 => ?_)
        · split <;> split <;> omega
        · simp only [Bool.not_true, Bool.false_eq_true, if_false]
          exact wpS_pure ⟨rfl, runs5, ri5, .inr (by omega)⟩
    · rintro c st4 ⟨rfl, runs', ri4, hr⟩
      refine ⟨rfl, runs', ri4, ?_⟩
      omega
    · rintro c st4 ⟨rfl, runs', ri4, hr⟩
      refine wpS_pure (h st4 ri4.perm ri4.ok.f ?_)
      have hl := ri4.lst
      rw [List.append_nil] at hl
      intro i j hij hj
      have hz : (arrOf st4).size = a₀.size := ri4.perm.size_eq
      refine inc_K ?_ hij (by omega)
      rw [hl]
      match runs', hr, ri4 with
      | [], _, _ => exact List.Pairwise.nil
      | [R], _, ri4 => simpa using (ri4.inc R (by simp)).1
end
end Srt
set_option Elab.async false
set_option linter.all false
set_option maxRecDepth 100000
set_option maxHeartbeats 4000000
namespace Srt
open PySem PyProof.Rows
section
variable {prog : Program} {w : World} {A : Around} {E : Value → Shared → Prop} {s : Shared}
theorem sort_long {a : Addr} {vs : List Value} {ns : List Int} {n : Nat} {P : Fin → Shared → Prop} (ho : s.heap.get? a = some (seqObj "list" vs.toArray n)) (hI : IntsAre vs ns) (hv : vs.length ≤ 100000)
    (h : ∀ (out : Array Value) (ns' : List Int), IntsAre out.toList ns' → ns'.Perm ns → ns'.Pairwise (· ≤ ·) → P (.done (.ret .none)) { s with heap := sortedHeap s.heap a vs out }) :
    wpAny (model prog w) A (Builtin.«list.sort» ⟨[.ref a], []⟩) P E s := by
  by_cases h64 : vs.length < 64
  · exact list_sort_tree ho hI h64 h
  rw [list_sort_plain]
  have hbig : 100000 ≤ sizeLine := by decide
  have ha : a < s.heap.objs.size := Heap.lt_size ho
  refine wpAny_bind (listItems_at ho rfl ?_)
  refine wpAny_bind (listUpdate_at ho rfl ?_)
  obtain ⟨e1, ho1⟩ : ∃ e1, (s.heap.update a (Obj.mapSeq fun _ => #[])).get? a = some (seqObj "list" #[] e1) := ⟨_, get?_update_seq ho (fun _ => #[])⟩
  refine wpAny_bind (seqEpoch_at ho1 rfl ?_)
  refine wpAny_bind (wpAny_newTuple ?_ (by simp; omega))
  refine wpAny_bind (wpAny_newList ?_)
  refine wpAny_holding ?_
  have ho6 : (((s.heap.update a (Obj.mapSeq fun _ => #[])).push (seqObj "tuple" vs.toArray 0)).push (seqObj "list" #[] 0)).get? a = some (seqObj "list" #[] e1) := by
    rw [Heap.get?_push_ne _ _ _ (by rw [size_push', Heap.size_update]; exact Nat.ne_of_lt (Nat.lt_succ_of_lt ha)), Heap.get?_push_ne _ _ _ (by rw [Heap.size_update]; exact Nat.ne_of_lt ha)]
    exact ho1
  show wpAny (model prog w) A _ P E { s with heap := ((s.heap.update a (Obj.mapSeq fun _ => #[])).push (seqObj "tuple" vs.toArray 0)).push (seqObj "list" #[] 0) }
  dsimp only
  have hsz : vs.toArray.size = vs.length := by simp
  rw [if_neg (by omega), if_neg (by omega)]
  obtain ⟨v₁, v₂, rest, rfl⟩ : ∃ v₁ v₂ rest, vs = v₁ :: v₂ :: rest := by
    match vs, h64 with
    | [], h => simp at h
    | [_], h => simp at h
    | a :: b :: r, _ => exact ⟨a, b, r, rfl⟩
  rw [keyKind_ints hI]
  refine wpAny_bind (wpAny_pure ?_)
  refine wpAny_bind (wpAny_mono (wpS_all (st := SortSt.mk' oneType' (pairsOf (v₁ :: v₂ :: rest)) #[] 7 none)
    (Q := fun _ st' => (arrOf st').Perm (pairsOf (v₁ :: v₂ :: rest)) ∧ failedOf st' = none ∧ SortedTo (arrOf st') (pairsOf (v₁ :: v₂ :: rest)).size)
    ⟨rfl, fun p hp => hI.intKeys p hp, rfl⟩ rfl (by show 2 ≤ (pairsOf (v₁ :: v₂ :: rest)).size; rw [pairsOf_size]; simp) fun st' a1 a2 a3 => ⟨a1, a2, a3⟩) ?_ fun _ _ e => e)
  rintro ⟨⟨⟩, st'⟩ s' ⟨rfl, hp, hf, hs⟩
  dsimp only
  obtain ⟨ns', q1, q2, q3⟩ := sorted_out hI hp hs
  refine wpAny_bind (seqEpoch_at ho6 rfl ?_)
  refine wpAny_bind (listUpdate_at ho6 rfl ?_ (hsz2 := by
    have e : ((arrOf st').map (·.2)).size = (v₁ :: v₂ :: rest).length := by rw [Array.size_map, hp.size_eq, pairsOf_size]
    show ((arrOf st').map (·.2)).size ≤ _
    omega))
  rw [hf]
  simp only [bne_self_eq_false, Bool.false_eq_true, if_false]
  exact wpAny_pure (h _ ns' q1 q2 q3)
end
end Srt
set_option Elab.async false
set_option linter.all false
set_option maxRecDepth 100000
set_option maxHeartbeats 4000000
namespace L2
open PySem PySem.Spec PyProof.Rows
section
variable {X : Cx}
def rSortDL : List V → Hp → VK → Prop := fun xs H Q => ∃ (a : Addr) (kvs : List (Key × V)) (ns : List Int), xs = [.ref a] ∧ Rd H a (.dK kvs) ∧ kvs.map (·.1) = ns.map Sum.inl ∧ kvs.length ≤ 100000 ∧
  ∀ (out : List Int) D, out.Perm ns → out.Pairwise (· ≤ ·) → H D = none → Q (.ref D) (upd H D (.lst (out.map V.int)))
theorem call_sortDL (hc : X.calm = true) : CallR X (.builtin "sorted") rSortDL := by
  intro pins s σ H xs us Q I r h
  obtain ⟨a, kvs, ns, rfl, ha, hks, h64, q⟩ := h
  obtain ⟨u, rfl, ru⟩ := vals1 r
  cases ru
  obtain ⟨z, hs, vs, rel, dd⟩ := dk_rd I.hok ha
  obtain ⟨ep, da⟩ := dd.dictAt
  have hlen : kvs.length = vs.length := Paired.length rel
  refine Calls.call_function_entry kind_sorted plain_sorted entry_sorted (args_sorted1 _) ?_
  unfold Builtin.«sorted»
  refine wpAny_bind (m := checkCount "sorted" 1 1 _) (wpAny_pure ?_)
  refine wpAny_bind (collect_dict (PySem.W.kdl_dict (knd := mixKind X.prog X.w) (kvs := vs) (ep := ep) hs) (I.ok.hd hc) da (by omega) fun h1 tk us hk hul hit => ?_)
  have rv : Vals (kvs.map fun kv => kV kv.1) us := vals_keys (P := X.prog) (w := X.w) rel hul fun j v e => hit j v e
  have rv' : Vals (ns.map V.int) us := by
    have : (kvs.map fun kv => kV kv.1) = ns.map V.int := by
      have h0 : (kvs.map fun kv => kV kv.1) = (kvs.map (·.1)).map kV := by rw [List.map_map]; rfl
      rw [h0, hks, List.map_map]; rfl
    rw [← this]; exact rv
  have hI := ints_are rv'
  have hus : us.length ≤ 100000 := by omega
  refine wpAny_bind (wpAny_newList ?_ (Nat.le_trans hus (by decide)))
  have hoL : (h1.push (seqObj "list" us.toArray 0)).get? h1.objs.size = some (seqObj "list" us.toArray 0) := Heap.get?_push_size _ rfl
  refine wpAny_bind (wpAny_holding (wpAny_call_entry slot_list_sort ⟨_, hoL, rfl⟩ entry_list_sort (Srt.sort_long hoL hI hus fun out ns' a1 a2 a3 => ⟨_, rfl, ?_⟩) (args_list_sort _)))
  refine wpAny_pure ⟨_, rfl, ?_⟩
  obtain ⟨e, he⟩ := sortedHeap_at (out := out) hoL
  have I1 : Inv X pins σ H { s with heap := h1, toks := tk } := I.kept (t' := tk) hk
  have I2 : Inv X pins σ (upd H h1.objs.size (.lst (ns'.map V.int))) { s with heap := sortedHeap (h1.push (seqObj "list" us.toArray 0)) h1.objs.size us out, toks := tk } := by
    refine I1.laid (t' := tk) (fun b o eb => ?_) (Nat.le_refl _) ⟨?_, out.toList, e, ints_vals a1, ?_⟩
    · have hb := Heap.lt_size eb
      rw [sortedHeap_old (Nat.ne_of_lt hb) (by rw [size_push']; exact Nat.lt_succ_of_lt hb)]
      exact Heap.get?_push_of_some _ eb
    · have := a2.length_eq
      have h2 := rv'.length
      rw [List.length_map] at h2 ⊢
      rw [this, h2, sizeLine_eq]; omega
    · rw [Array.toArray_toList]; exact he
  exact ⟨.ref h1.objs.size, _, I2, rfl, q ns' _ a2 a3 (I1.hok.fresh (Nat.le_refl _))⟩
end
end L2
set_option Elab.async false
set_option linter.all false
set_option maxRecDepth 100000
set_option maxHeartbeats 4000000
namespace RV
open PySem PySem.Spec
theorem slot_next : Slot "reversed" "__next__" "reversed.__next__" :=
  .of (owner := "reversed") (n := "__next__") (by rw [typeLookup_type, builtinLookup_eq_fast]; kernel_rfl) (by decide +kernel) (by decide +kernel) (by decide +kernel)
    (by first | exact .inl (by decide +kernel) | exact .inr (by decide +kernel)) (by rw [isSubtype_type]; kernel_rfl)
theorem slot_iter : Slot "reversed" "__iter__" "reversed.__iter__" :=
  .of (owner := "reversed") (n := "__iter__") (by rw [typeLookup_type, builtinLookup_eq_fast]; kernel_rfl) (by decide +kernel) (by decide +kernel) (by decide +kernel)
    (by first | exact .inl (by decide +kernel) | exact .inr (by decide +kernel)) (by rw [isSubtype_type]; kernel_rfl)
theorem slot_init : Slot "reversed" "__init__" "object.__init__" :=
  .of (owner := "object") (n := "__init__") (by rw [typeLookup_type, builtinLookup_eq_fast]; kernel_rfl) (by decide +kernel) (by decide +kernel) (by decide +kernel)
    (by first | exact .inl (by decide +kernel) | exact .inr (by decide +kernel)) (by rw [isSubtype_type]; kernel_rfl)
theorem entry_next : entryFor table "reversed.__next__" = some Builtin.«reversed.__next__» := entryFor_of_tree (by kernel_rfl)
theorem entry_iter : entryFor table "reversed.__iter__" = some Builtin.«dict_keyiterator.__iter__» :=
  entryFor_alias (id' := "dict_keyiterator.__iter__") (by kernel_rfl) (by first | rfl | decide +kernel | (unfold String.splitOn; simp +decide [String.splitOnAux])) (by decide +kernel) (by kernel_rfl)
theorem owner_rev : Manifest.owners.lookup (String.ofList ['d', 'e', 's', 'r', 'e', 'v', 'e', 'r'].reverse) = some Manifest.sig_reversed := by kernel_rfl
theorem args_next (a : Value) : argsOk "reversed.__next__" ⟨[a], []⟩ := by
  unfold argsOk; rw [signature?_of (id := "reversed.__next__") (n := ['_', '_', 't', 'x', 'e', 'n', '_', '_']) (o := ['d', 'e', 's', 'r', 'e', 'v', 'e', 'r']) (by kernel_rfl) owner_rev]; kernel_rfl
theorem args_iter (a : Value) : argsOk "reversed.__iter__" ⟨[a], []⟩ := by
  unfold argsOk; rw [signature?_of (id := "reversed.__iter__") (n := ['_', '_', 'r', 'e', 't', 'i', '_', '_']) (o := ['d', 'e', 's', 'r', 'e', 'v', 'e', 'r']) (by kernel_rfl) owner_rev]; kernel_rfl
theorem called : TypeCalled "reversed" "reversed.__new__" "object.__init__" :=
  ⟨by decide +kernel, by decide +kernel, ⟨_, _, F.mro_reversed⟩, F.made_reversed, by decide +kernel, F.sub_reversed_self, slot_init⟩
theorem no_rev : typeLookup (.type "tuple") "__reversed__" = pure none := by rw [typeLookup_type, builtinLookup_eq_fast]; kernel_rfl
theorem no_dict : isSubtype (.type "tuple") (.type "dict") = pure false := by rw [isSubtype_type]; kernel_rfl
def rObj (t : Addr) (i : Int) : Obj := { cls := .type "reversed", data := .fields #[.ref t, rawInt i] }
def IsRev (h : Heap) (a t : Addr) (i : Int) : Prop := ∃ o, h.get? a = some o ∧ o.cls = .type "reversed" ∧ o.data = .fields #[.ref t, rawInt i]
section
variable {prog : Program} {w : World} {A : Around} {E : Value → Shared → Prop} {s : Shared}
theorem IsRev.ty {a t : Addr} {i : Int} (x : IsRev s.heap a t i) : s.TypeIs (.ref a) "reversed" := let ⟨o, ho, hc, _⟩ := x; ⟨o, ho, hc⟩
theorem IsRev.at {h h' : Heap} {a t : Addr} {i : Int} (x : IsRev h a t i) (e : ∀ o, h.get? a = some o → h'.get? a = some o) : IsRev h' a t i := let ⟨o, ho, r⟩ := x; ⟨o, e _ ho, r⟩
theorem new_meets {t : Addr} {items : Array Value} (hz : items.size ≤ sizeLine) : MeetsIn prog w (Builtin.«reversed.__new__» ⟨[.type "reversed", .ref t], []⟩)
    (fun _ R s => s.heap.IsTuple t items ∧ ∀ tk, R (.ok (.ret (.ref s.heap.objs.size))) { s with heap := s.heap.push (rObj t ((items.size : Int) - 1)), toks := tk }) :=
  .of_wp fun A R s ⟨ht, h⟩ => by
    unfold Builtin.«reversed.__new__»
    refine wpAny_bind (wpAny_of_eq (newClass_reversed _) ?_)
    try dsimp only
    refine wpAny_bind (wpAny_of_eq (a := ()) (by first | rfl | kernel_rfl) ?_)
    refine wpAny_bind (wpAny_of_eq (a := ()) (by first | rfl | kernel_rfl) ?_)
    try dsimp only
    refine wpAny_bind (wpAny_specialOf ht.typeIs no_rev ?_)
    try dsimp only
    refine wpAny_bind ?_
    refine wpAny_bind (m := isInstance (.ref t) (.type "dict")) (wpAny_isInstance (T := "tuple") (b := false) ht.typeIs no_dict ?_)
    refine wpAny_bind (m := specialOf (.ref t) (Str.ofString "__getitem__")) (wpAny_specialOf (name := Str.ofString "__getitem__") ht.typeIs PyProof.Rows.slot_tuple_getitem.lookup ?_)
    dsimp only
    rw [if_pos (by decide +kernel)]
    refine wpAny_pure ?_
    simp only [Bool.not_true, Bool.false_eq_true, if_false]
    refine wpAny_bind (PyProof.Rows.len_tuple (show PyProof.Rows.IsTup s.heap t items from ht) (by rw [sizeLine_eq] at hz; omega) ?_)
    refine wpAny_bind (wpAny_of_eq (a := some (items.size : Int)) rfl ?_)
    dsimp only
    refine wpAny_bind (m := newObj _ _) (wpAny_newObj_type (data := .fields #[.ref t, rawInt ((items.size : Int) - 1)]) ?_ (by first | trivial | size_fits))
    exact wpAny_pure ⟨_, rfl, h _⟩
theorem call_rev {t : Addr} {items : Array Value} {Q : Value → Shared → Prop} (hz : items.size ≤ sizeLine) (ht : s.heap.IsTuple t items)
    (h : ∀ tk, Q (.ref s.heap.objs.size) { s with heap := s.heap.push (rObj t ((items.size : Int) - 1)), toks := tk }) : wpAny (model prog w) A (call (.type "reversed") [.ref t]) Q E s := by
  refine callType_newIn called (by decide) (F.typeCall_reversed_1 _) (F.newCall_reversed_1 _) (fun obj => F.args_object_init_2 obj _) F.entry_reversed_new (new_meets (items := items) hz) ⟨ht, fun tk => ?_⟩
  exact ⟨⟨_, Heap.get?_push_size _ rfl, rfl⟩, h tk⟩
theorem next_item {it t : Addr} {i : Nat} {items : Array Value} {x : Value} {Q : Option Value → Shared → Prop} (hit : IsRev s.heap it t (i : Int)) (ht : s.heap.IsTuple t items) (hz : items.size ≤ sizeLine) (hx : items[i]? = some x)
    (hQ : ∀ h' tk, IsRev h' it t ((i : Int) - 1) → Heap.SameBut it s.heap h' → Q (some x) { s with heap := h', toks := tk }) : wpAny (model prog w) A (pyNext (.ref it)) Q E s := by
  obtain ⟨o, ho, hc, hd⟩ := id hit
  unfold pyNext
  refine wpAny_bind (wpAny_attempt (wpAny_callSpecial?_slot (name := Str.ofString "__next__") hit.ty slot_next
    (wpAny_call_entry slot_next hit.ty entry_next ?_ (args_next _))))
  unfold Builtin.«reversed.__next__»
  refine wpAny_bind (wpAny_of_eq (a := (Value.ref it, [])) rfl ?_)
  try dsimp only
  refine wpAny_bind (wpAny_field ho hd (x := .ref t) rfl ?_)
  refine wpAny_bind (wpAny_field ho hd (x := rawInt (i : Int)) rfl ?_)
  show wpAny _ _ (if (i : Int) < 0 then _ else _) _ _ s
  rw [if_neg (by omega)]
  refine wpAny_bind (wpAny_specialOf (name := Str.ofString "__getitem__") ht.typeIs PyProof.Rows.slot_tuple_getitem.lookup ?_)
  rw [if_neg (by simp)]
  refine wpAny_bind (wpAny_mkInt ?_)
  have hz' := hz
  rw [sizeLine_eq] at hz'
  have hi : i < items.size := by
    cases Nat.lt_or_ge i items.size with
    | inl h => exact h
    | inr h => rw [Array.getElem?_eq_none h] at hx; cases hx
  refine wpAny_bind (wpAny_attempt (PyProof.Rows.getItem_tuple (j := i) (show PyProof.Rows.IsTup s.heap t items from ht) (by omega) (by omega) (by unfold seqIndex?; simp; omega) hx ?_))
  dsimp only
  refine wpAny_bind (wpAny_field ho hd (x := rawInt (i : Int)) rfl ?_)
  dsimp only [rawInt]
  refine wpAny_bind (wpAny_setField ho hd (by simp) ?_)
  refine wpAny_pure ⟨x, rfl, wpAny_pure (hQ _ _ ?_ (Heap.SameBut.update ..))⟩
  exact ⟨_, Heap.get?_update_self _ ho (Obj.isFreed_of_fields (Obj.data_mapFields hd _)), (Obj.cls_mapFields ..).trans hc, by
    rw [Obj.data_mapFields hd]; simp; rfl⟩
theorem next_end {it t : Addr} {Q : Option Value → Shared → Prop} (hh : A.handled = none) (hit : IsRev s.heap it t (-1))
    (hQ : ∀ h', Heap.ExtBut it s.heap h' → Q none { s with heap := h' }) : wpAny (model prog w) A (pyNext (.ref it)) Q E s := by
  obtain ⟨o, ho, hc, hd⟩ := id hit
  unfold pyNext
  refine wpAny_bind (wpAny_attempt (wpAny_callSpecial?_slot (name := Str.ofString "__next__") hit.ty slot_next
    (wpAny_call_entry slot_next hit.ty entry_next ?_ (args_next _))))
  unfold Builtin.«reversed.__next__»
  refine wpAny_bind (wpAny_of_eq (a := (Value.ref it, [])) rfl ?_)
  try dsimp only
  refine wpAny_bind (wpAny_field ho hd (x := .ref t) rfl ?_)
  refine wpAny_bind (wpAny_field ho hd (x := rawInt (-1)) rfl ?_)
  show wpAny _ _ (if (-1 : Int) < 0 then _ else _) _ _ s
  rw [if_pos (by decide)]
  refine wpAny_bind (wpAny_rule ?_)
  refine wpAny_bind ?_
  refine wpAny_bind (m := setField (.ref it) 1 (rawInt (-1))) (wpAny_setField ho hd (by simp) ?_)
  have ho' := Heap.get?_update_self (Obj.mapFields fun x => x.setIfInBounds 1 (rawInt (-1))) ho (Obj.isFreed_of_fields (Obj.data_mapFields hd _))
  refine wpAny_setField ho' (Obj.data_mapFields hd _) (by simp) ?_
  refine wpAny_bind ?_
  unfold Builtin.SmallTypes.stopIteration
  refine wpAny_bind ?_
  simp only [newExc, newTuple]
  refine wpAny_bind (wpAny_newObj_type ?_ (by size_fits))
  refine wpAny_bind (m := firstArgMember _ _) (wpAny_of_eq (a := Value.none) (by first | rfl | (simp only [firstArgMember]; rfl)) ?_)
  refine wpAny_newObj_type ?_ (by size_fits)
  simp only [raiseNew]
  refine wpAny_bind (wpAny_handled ?_)
  first | rw [show A.in1.handled = none from hh] | rw [hh]
  refine wpAny_bind (wpAny_pure (wpAny_throw ?_))
  refine wpAny_bind (wpAny_isInstance (T := "StopIteration") (b := true) ⟨_, Heap.get?_push_size _ rfl, rfl⟩ isSubtype_stop ?_)
  exact wpAny_pure (hQ _ fun b u hb e => Heap.get?_push_of_some _ (Heap.get?_push_of_some _ (((Heap.SameBut.update ..).2 b hb).trans (((Heap.SameBut.update ..).2 b hb).trans e))))
theorem iter_rev {it t : Addr} {i : Int} {Q : Value → Shared → Prop} (hit : IsRev s.heap it t i) (h : Q (.ref it) s) : wpAny (model prog w) A (pyIter (.ref it)) Q E s := by
  refine wpAny_pyIter_slot hit.ty slot_iter (wpAny_call_entry slot_iter hit.ty entry_iter ?_ (args_iter _))
  show wpAny _ _ (ret (.ref it)) _ _ s
  exact wpAny_pure ⟨_, rfl, "reversed", _, hit.ty, slot_next.lookup, h⟩
end
theorem boot : bootBuiltins "reversed" = some (.type "reversed") := by decide +kernel
end RV
namespace L2
open PySem PySem.Spec PyProof.Rows
def ItRv (K : PySem.W.Frag) (a : Addr) (n : Nat) : It :=
  ⟨fun i H => ∃ xs x, SqT K H a xs ∧ xs.length = n ∧ i < n ∧ xs[n - 1 - i]? = some x, fun i H x H' => H' = H ∧ ∀ xs, SqT K H a xs → xs[n - 1 - i]? = some x, fun i H => n ≤ i⟩
theorem turn_rev {P : Program} {w : World} {K : PySem.W.Frag} {tg : Expr} (a it : Addr) (n : Nat) : Turn P w K tg (ItRv K a n) [it] it (fun i h => i ≤ n ∧ RV.IsRev h it a ((n : Int) - 1 - (i : Int))) where
  mem := by simp
  obj := fun i h st b hb => by
    have e : b = it := by simpa using hb
    subst e
    obtain ⟨_, o, e, c, d⟩ := st
    exact ⟨o, e, fun v z => by rw [d] at z; cases z⟩
  keep := fun i h h' st k => ⟨st.1, st.2.at fun o e => k it (by simp) o e⟩
  item := by
    intro X hP hw hK hc i pins s σ H E I hf st hg
    subst hP hw hK
    obtain ⟨xs, x, hq, hn, hi, hx⟩ := hg
    obtain ⟨its, rv, p, hz⟩ := I.tuple hq
    obtain ⟨u, hu, ru⟩ := rv.get hx
    obtain ⟨f0, f1, f2, f3, f4, f5⟩ := hf it (by simp)
    obtain ⟨hin, st⟩ := st
    have e1 : (n : Int) - 1 - (i : Int) = ((n - 1 - i : Nat) : Int) := by omega
    rw [e1] at st
    have hl := rv.length
    refine RV.next_item st (show s.heap.IsTuple a its.toArray from p) (by simp; omega) (x := u) (by simpa using hu) fun h' tk st' sb => ?_
    have I1 : Inv X pins σ H { s with heap := h', toks := tk } := I.turned (fun b o hb e => (sb.2 b hb).trans e) f0 f1 f3 f4 f5
    have e2 : ((n - 1 - i : Nat) : Int) - 1 = (n : Int) - 1 - ((i + 1 : Nat) : Int) := by omega
    rw [e2] at st'
    obtain ⟨o, e, c, d⟩ := id st'
    exact ⟨u, rfl, go_of (s := { s with heap := h', toks := tk }) e c d (by decide) ⟨x, H, I1, ru, ⟨rfl, fun ys hy => by rw [I.tuple_inj hy hq]; exact hx⟩, ⟨hi, st'⟩, fun b hb => (hf b hb).1⟩⟩
  done := by
    intro X hP hw hK hc i pins s σ H E I hf st hg
    subst hP hw hK
    obtain ⟨f0, f1, f2, f3, f4, f5⟩ := hf it (by simp)
    obtain ⟨hin, st⟩ := st
    have : n ≤ i := hg
    have e1 : (n : Int) - 1 - (i : Int) = -1 := by omega
    rw [e1] at st
    exact RV.next_end (I.ok.hd hc) st fun h' eb => ⟨rfl, I.turned (t' := s.toks) (fun b o hb e => eb b o hb e) f0 f1 f3 f4 f5⟩
  self := fun _ _ _ _ _ st h => RV.iter_rev st.2 h
section
variable {X : Cx} {tg : Expr}
def iRev (K : PySem.W.Frag) (ta : TA) : TI := fun σ H R => ta σ H fun vs H1 => ∃ t xs, vs = [.ref t] ∧ SqT K H1 t xs ∧ R (ItRv K t xs.length) H1
theorem pi_rev {a : Expr} {ta : TA} {p pos : Pos} (hg : Gl X "reversed") (hm : X.mg "reversed" = none) (ha : PA X [a] ta) (hs : starEach [a] X.env = [(false, eval a X.env)] := by rfl) : PI X tg (.Call (.Name "reversed" p) [a] [] pos) (iRev X.K ta) := by
  intro pins s σ H R I h
  refine Call_ (ld_blt I hg hm RV.boot (PyProof.Rows.callWith_type1 (thn (ha pos pins s σ H _ I h) fun us s1 ⟨vs, H1, I1, r1, q1⟩ => ?_) hs rfl))
  obtain ⟨t, xs, e, hq, q⟩ := q1
  subst e
  obtain ⟨u, rfl, ru⟩ := Vals.one r1
  cases ru
  obtain ⟨its, rv, pd, hz⟩ := I1.tuple hq
  have hl := rv.length
  refine RV.call_rev (items := its.toArray) (by simp; omega) (show s1.heap.IsTuple t its.toArray from pd) fun tk => ?_
  have I2 : Inv X pins σ H1 { s1 with heap := s1.heap.push (RV.rObj t ((its.toArray.size : Int) - 1)), toks := tk } := I1.kept fun b o e => Heap.get?_push_of_some _ e
  have hrv : RV.IsRev (s1.heap.push (RV.rObj t ((its.toArray.size : Int) - 1))) s1.heap.objs.size t ((xs.length : Int) - 1 - ((0 : Nat) : Int)) := by
    have e : (xs.length : Int) - 1 - ((0 : Nat) : Int) = (its.toArray.size : Int) - 1 := by simp; omega
    rw [e]
    exact ⟨_, Heap.get?_push_size _ rfl, rfl, rfl⟩
  refine RV.iter_rev (s := { s1 with heap := s1.heap.push (RV.rObj t ((its.toArray.size : Int) - 1)), toks := tk }) hrv ⟨s1.heap.objs.size, [s1.heap.objs.size], _, _, H1, rfl, I2, turn_rev t _ xs.length, ⟨Nat.zero_le _, hrv⟩, fun b hb => ?_, q⟩
  have e : b = s1.heap.objs.size := by simpa using hb
  subst e
  exact I1.fpOk (Nat.le_refl _) (I1.hok.fresh (Nat.le_refl _))
def ItrS (lo c : Int) (n : Nat) : It := ⟨fun i _ => i < n, fun i H x H' => H' = H ∧ x = .int (lo + (i : Int) * c), fun i _ => n ≤ i⟩
theorem turn_rangeS {P : Program} {w : World} {K : PySem.W.Frag} {tg : Expr} (it : Addr) (lo c : Int) (n : Nat) : Turn P w K tg (ItrS lo c n) [it] it (fun i h => IsRangeIter h it (lo + (i : Nat) * c) ((n : Int) - (i : Nat)) c) where
  mem := by simp
  obj := fun i h st b hb => by
    have e : b = it := by simpa using hb
    subst e
    exact ⟨_, st, fun v z => by
      have z' : Data.fields _ = Data.cell v := z
      cases z'⟩
  keep := fun i h h' st k => k it (by simp) _ st
  item := by
    intro X hP hw hK hc i pins s σ H E I hf st hg
    subst hP hw hK
    obtain ⟨f0, f1, f2, f3, f4, f5⟩ := hf it (by simp)
    have W := Walks.range (prog := X.prog) (w := X.w) (I.ok.hd hc) it lo c n
    refine W.item i s _ _ hg st fun v h' tk hv st' kk => ?_
    obtain ⟨t, rfl⟩ := hv
    have I1 : Inv X pins σ H { s with heap := h', toks := tk } := I.turned (fun b o hb e => kk b o (by simpa using hb) e) f0 f1 f3 f4 f5
    exact ⟨_, rfl, go_of (s := { s with heap := h', toks := tk }) (n := "range_iterator") st' rfl rfl (by decide) ⟨.int (lo + (i : Int) * c), H, I1, ⟨t, rfl⟩, ⟨rfl, rfl⟩, st', fun b hb => (hf b hb).1⟩⟩
  done := by
    intro X hP hw hK hc i pins s σ H E I hf st hg
    subst hP hw hK
    obtain ⟨f0, f1, f2, f3, f4, f5⟩ := hf it (by simp)
    exact wpAny_pyNext_range_end (I.ok.hd hc) st (by have : n ≤ i := hg; omega) fun h' eb => ⟨rfl, I.turned (t' := s.toks) (fun b o hb e => eb b o hb e) f0 f1 f3 f4 f5⟩
  self := fun _ _ _ _ _ st h => wpAny_pyIter_rangeiter st h
def stepN (lo hi c : Int) : Nat := if lo < hi then ((hi - lo - 1) / c + 1).toNat else 0
theorem range_itS {pins : List (Addr × Obj)} {σ : St} {H : Hp} {s : Shared} {R : It → Hp → Prop} {E : Value → Shared → Prop} {lo hi c : Int} {t u v : Tok} {tk : Nat} (I : Inv X pins σ H s) (h1 : -(2 ^ 60) ≤ lo) (h2 : lo < 2 ^ 60) (h3 : -(2 ^ 60) ≤ hi) (h4 : hi < 2 ^ 60)
    (hc : c = 2 ∨ c = 3) (q : R (ItrS lo c (stepN lo hi c)) H) : wpAny (model X.prog X.w) X.A (pyIter (.ref s.heap.objs.size)) (PIE X pins σ tg R) E { s with heap := s.heap.push { cls := .type "range", data := .fields #[.int lo t, .int hi u, .int c v] }, toks := tk } := by
  have hsm : Builtin.Range.small lo hi c = true := by
    unfold Builtin.Range.small Builtin.Range.rangeSize
    rcases hc with rfl | rfl
    · simp only [Builtin.Range.rangeFitsLong, Bool.and_eq_true, Bool.or_eq_true, decide_eq_true_eq, beq_iff_eq, show (2 : Int) > 0 by decide, if_true]
      split <;> omega
    · simp only [Builtin.Range.rangeFitsLong, Bool.and_eq_true, Bool.or_eq_true, decide_eq_true_eq, beq_iff_eq, show (3 : Int) > 0 by decide, if_true]
      split <;> omega
  have hsz : Builtin.Range.rangeSize lo hi c = ((stepN lo hi c : Nat) : Int) := by
    unfold Builtin.Range.rangeSize stepN
    rcases hc with rfl | rfl
    · rw [if_pos (by decide)]
      split <;> omega
    · rw [if_pos (by decide)]
      split <;> omega
  refine wpAny_pyIter_range (IsRange.new ..) hsm ?_
  have I1 : Inv X pins σ H { s with heap := s.heap.push { cls := .type "range", data := .fields #[.int lo t, .int hi u, .int c v] }, toks := tk } := I.kept fun b o e => Heap.get?_push_of_some _ e
  refine ⟨(s.heap.push { cls := .type "range", data := .fields #[.int lo t, .int hi u, .int c v] }).objs.size, [(s.heap.push { cls := .type "range", data := .fields #[.int lo t, .int hi u, .int c v] }).objs.size], _, _, H, rfl,
    I1.kept (t' := tk) fun b o e => Heap.get?_push_of_some _ e, turn_rangeS _ lo c (stepN lo hi c), ?_, fun b hb => ?_, q⟩
  · have e1 : lo + ((0 : Nat) : Int) * c = lo := by simp
    have e2 : ((stepN lo hi c : Nat) : Int) - ((0 : Nat) : Int) = Builtin.Range.rangeSize lo hi c := by rw [hsz]; omega
    show IsRangeIter _ _ (lo + ((0 : Nat) : Int) * c) (((stepN lo hi c : Nat) : Int) - ((0 : Nat) : Int)) c
    rw [e1, e2]
    exact Heap.get?_push_size _ rfl
  · have e : b = (s.heap.push { cls := .type "range", data := .fields #[.int lo t, .int hi u, .int c v] }).objs.size := by simpa using hb
    subst e
    exact I1.fpOk (Nat.le_refl _) (I1.hok.fresh (Nat.le_refl _))
def iRng3 (ta : TA) : TI := fun σ H R => ta σ H fun vs H1 => ∃ i j c : Int, vs = [.int i, .int j, .int c] ∧ (-(2 ^ 60) ≤ i ∧ i < 2 ^ 60 ∧ -(2 ^ 60) ≤ j ∧ j < 2 ^ 60) ∧ (c = 2 ∨ c = 3) ∧ R (ItrS i c (stepN i j c)) H1
theorem pi_range3 {a b c : Expr} {ta : TA} {p pos : Pos} (hg : Gl X "range") (hm : X.mg "range" = none) (ha : PA X [a, b, c] ta) (hs : starEach [a, b, c] X.env = [(false, eval a X.env), (false, eval b X.env), (false, eval c X.env)] := by rfl) (hs2 : starEach [b, c] X.env = [(false, eval b X.env), (false, eval c X.env)] := by rfl) :
    PI X tg (.Call (.Name "range" p) [a, b, c] [] pos) (iRng3 ta) := by
  intro pins s σ H R I h
  refine Call_ (ld_blt I hg hm boot_range (PyProof.Rows.callWith_type1 (thn (ha pos pins s σ H _ I h) fun us s1 ⟨vs, H1, I1, r1, q1⟩ => ?_) (by rw [hs, hs2]) (by rw [hs2]; rfl)))
  obtain ⟨i, j, c, e, ⟨q1, q2, q3, q4⟩, hc, q⟩ := q1
  subst e
  cases r1 with
  | cons r rr =>
    cases rr with
    | cons r' rr =>
      cases rr with
      | cons r'' rr =>
        cases rr
        obtain ⟨t, rfl⟩ := r
        obtain ⟨t', rfl⟩ := r'
        obtain ⟨t'', rfl⟩ := r''
        exact call_range_3 (by rcases hc with rfl | rfl <;> decide) (range_itS I1 q1 q2 q3 q4 hc q) (.inl (PyProof.noPylong_small (by rcases hc with rfl | rfl <;> decide)))
end
end L2
set_option Elab.async false
set_option linter.all false
set_option maxRecDepth 100000
set_option maxHeartbeats 4000000
namespace PT
open PySem PySem.Spec
section
variable {prog : Program} {w : World} {K : Type} [DecidableEq K] {knd : HeapKind prog w K} {A : Around} {E : Value → Shared → Prop} {s : Shared}
def wo (xs : List (K × Addr × Value)) (k : K) : List (K × Addr × Value) := xs.filter fun x => decide (x.1 ≠ k)
theorem wo_at {k : K} : ∀ {xs : List (K × Addr × Value)} {j : Nat} {p : Addr × Value}, (xs.map (·.1)).Nodup → xs[j]? = some (k, p) → xs.eraseIdx j = wo xs k
  | x :: xs, 0, p, hn, h => by
    cases h
    obtain ⟨h1, _⟩ := List.nodup_cons.mp hn
    unfold wo
    rw [List.eraseIdx_cons_zero, List.filter_cons_of_neg (by simp)]
    symm
    rw [List.filter_eq_self]
    intro y hy
    have : y.1 ≠ k := fun e => h1 (by rw [← e]; exact List.mem_map.mpr ⟨y, hy, rfl⟩)
    simpa using this
  | x :: xs, j + 1, p, hn, h => by
    obtain ⟨h1, h2⟩ := List.nodup_cons.mp hn
    have h' : xs[j]? = some (k, p) := by simpa using h
    have hm : k ∈ xs.map (·.1) := List.mem_map.mpr ⟨_, List.mem_of_getElem? h', rfl⟩
    have hx : x.1 ≠ k := fun e => h1 (by show x.1 ∈ _; rw [e]; exact hm)
    rw [List.eraseIdx_cons_succ, wo_at h2 h']
    unfold wo
    rw [List.filter_cons_of_pos (by simpa using hx)]
theorem erase_map {α β : Type} {f : α → β} : ∀ {l : List α} {i : Nat}, (l.map f).eraseIdx i = (l.eraseIdx i).map f
  | [], _ => rfl
  | _ :: _, 0 => rfl
  | x :: l, i + 1 => by rw [List.map_cons, List.eraseIdx_cons_succ, List.eraseIdx_cons_succ, List.map_cons, erase_map]
theorem take_heap {d a : Addr} {xs : List (K × Addr × Value)} {k : K} {p : Addr × Value} {Q : Option DictEntry → Shared → Prop} (hu : knd.room A) (hkey : knd.is s.heap k a) (hm : s.heap.DictOfH knd d xs) (hz : xs.length ≤ sizeLine) (hp : atKey xs k = some p)
    (hQ : ∀ e h', e.val = p.2 → h'.DictOfH knd d (wo xs k) → Heap.SameBut d s.heap h' → Q (some e) { s with heap := h', toks := s.toks + knd.draws k }) : wpAny (model prog w) A (Builtin.Dict.takeOut d (.ref a)) Q E s := by
  obtain ⟨o, es, ep, ho, hc, hd, he, his, hn⟩ := hm
  unfold Builtin.Dict.takeOut
  try with_reducible refine wpAny_holding ?_
  refine wpAny_bind (knd.pyHash hu hkey (wpAny_bind (wpAny_dictFind_heap (s := { s with toks := s.toks + knd.draws k }) hu hkey ho hd he his hn ?_ ?_)))
  · intro hno
    rw [atKey_none_of_get hno] at hp
    cases hp
  · intro j q hj
    rw [atKey_of_get hn hj] at hp
    cases hp
    refine wpAny_bind (wpAny_dictEntries (s := { s with toks := s.toks + knd.draws k }) ho hd ?_)
    rw [entry_at he j, hj]
    refine wpAny_bind (wpAny_updateDictKeys (hz := by have e := size_of_entries he; omega) (s := { s with toks := s.toks + knd.draws k }) ho hd (wpAny_pure (hQ _ _ rfl ⟨_, _, ep + 1, Heap.get?_update_self _ ho (Obj.isFreed_of_dict (Obj.data_mapDictKeys hd _)),
      hc.mapDictKeys _, Obj.data_mapDictKeys hd _, ?_, ?_, ?_⟩ (Heap.SameBut.update ..))))
    · rw [← wo_at hn hj]
      obtain ⟨l⟩ := es
      have : l = xs.map (entryOfKey knd) := he
      subst this
      simp [erase_map]
    · intro x hx
      exact knd.keeps (his x (List.mem_filter.mp hx).1) ho hd (Heap.SameBut.update ..)
    · exact hn.sublist (List.filter_sublist.map _)
theorem pop_meets {d a : Addr} : MeetsIn prog w (Builtin.«dict.pop» ⟨[.ref d, .ref a], []⟩) (fun A R s => knd.room A.in1 ∧ ∃ k xs p, knd.is s.heap k a ∧ s.heap.DictOfH knd d xs ∧ xs.length ≤ sizeLine ∧ atKey xs k = some p ∧
      ∀ h', h'.DictOfH knd d (wo xs k) → Heap.SameBut d s.heap h' → R (.ok (.ret p.2)) { s with heap := h', toks := s.toks + knd.draws k }) :=
  .of_wp fun A R s ⟨hu, k, xs, p, hkey, hm, hz, hp, h⟩ => by
    unfold Builtin.«dict.pop»
    refine wpAny_bind ?_
    unfold Builtin.Dict.keyAndDefault
    refine wpAny_bind (wpAny_notOrdered_dict hm.typeIs ?_)
    show wpAny _ _ (pure (d, Value.ref a, none)) _ _ s
    refine wpAny_pure ?_
    obtain ⟨o, es, ep, ho, hc, hd, he, his, hn⟩ := id hm
    have hne : es.isEmpty = false := by
      cases hx : xs with
      | nil => subst hx; cases hp
      | cons x r =>
        subst hx
        obtain ⟨l⟩ := es
        have : l = (x :: r).map (entryOfKey knd) := he
        subst this
        rfl
    simp only [keyPart, Option.isSome_none, Bool.false_eq_true, if_false]
    refine wpAny_bind (m := dictEntries d none) (wpAny_dictEntries ho hd ?_)
    refine wpAny_bind (wpAny_pure ?_)
    rw [hne]
    simp only [Bool.false_eq_true, if_false]
    refine wpAny_bind (take_heap hu hkey hm hz hp fun e h' hv hm' hs' => ?_)
    simp only [Option.isNone_some, Bool.false_eq_true, if_false]
    exact wpAny_bind (wpAny_letGo (wpAny_pure ⟨e.val, rfl, by rw [hv]; exact h h' hm' hs'⟩))
theorem len_meets {d : Addr} (hd : (d == sysModules) = false) : MeetsIn prog w (Builtin.«dict.__len__» ⟨[.ref d], []⟩) (fun _ R s => ∃ xs, s.heap.DictOfH knd d xs ∧ R (.ok (.ret (.int xs.length s.toks))) { s with toks := s.toks + 1 }) :=
  .of_wp fun A R s ⟨xs, hm, h⟩ => by
    obtain ⟨o, es, ep, ho, hc, hdat, he, his, hn⟩ := hm
    show wpAny _ _ (dictSize d >>= _) _ _ s
    unfold dictSize
    refine wpAny_bind (wpAny_bind (wpAny_dictEntries ho hdat (wpAny_pure ?_)))
    show wpAny _ _ (Builtin.Dict.pendingCount d >>= _) _ _ s
    refine wpAny_bind (wpAny_pendingCount_other hd ?_)
    refine wpAny_ret_mkInt ?_
    have : es.size = xs.length := size_of_entries he
    rw [Nat.add_zero, this]; exact h
theorem call_len {d : Addr} {xs : List (K × Addr × Value)} {Q : Value → Shared → Prop} (hd : (d == sysModules) = false) (hm : s.heap.DictOfH knd d xs) (hfit : (xs.length : Int) < 2 ^ 63)
    (h : Q (.int xs.length (s.toks + 1)) { s with toks := s.toks + 1 + 1 }) : wpAny (model prog w) A (call (.builtin "len") [.ref d]) Q E s := by
  refine Calls.call_function_entry kind_len plain_len entry_len (args_len1 _) ?_
  unfold Builtin.«len»
  refine wpAny_bind (m := oneArg "len" _) (wpAny_pure ?_)
  refine wpAny_bind (m := callSpecial? (.ref d) (Str.ofString "__len__")) (wpAny_callSpecial?_slot (name := Str.ofString "__len__") hm.typeIs F.slot_dict_len
    (call_meetsIn F.slot_dict_len hm.typeIs F.entry_dict_len (F.args_dict_len_1 _) (len_meets (knd := knd) hd) ⟨xs, hm, ?_⟩))
  show wpAny _ _ _ _ _ { s with toks := s.toks + 1 }
  refine wpAny_bind (wpAny_holding (wpAny_pure ?_))
  refine wpAny_bind (wpAny_letGo ?_)
  show wpAny _ _ (if ((xs.length : Nat) : Int) < 0 then _ else _) _ _ _
  rw [if_neg (by omega)]
  show wpAny _ _ (if ((xs.length : Nat) : Int) ≥ 2 ^ 63 then _ else _) _ _ _
  rw [if_neg (by omega)]
  exact wpAny_bind (wpAny_mkInt (wpAny_pure ⟨_, rfl, h⟩))
end
end PT
namespace L2
open PySem PySem.Spec PyProof.Rows
section
variable {X : Cx} {pins : List (Addr × Obj)} {σ : St} {H : Hp} {s : Shared} {a b : Addr} {kvs : List (List Key × V)} {k : List Key} {A : Around} {E : Value → Shared → Prop}
theorem KT.drop {H : Hp} {kvs : List (List Key × V)} {xs : List (List Key × Addr × Value)} (r : KT H kvs xs) (k : List Key) : KT H (dropK kvs k) (PT.wo xs k) := by
  induction r with
  | nil => exact .nil
  | @cons p q ps qs hq t ih =>
    unfold dropK PT.wo at *
    by_cases e : p.1 = k
    · rw [List.filter_cons_of_neg (by simpa using e), List.filter_cons_of_neg (by simpa using (hq.1.symm.trans e))]
      exact ih
    · rw [List.filter_cons_of_pos (by simpa using e), List.filter_cons_of_pos (by simpa using (fun z => e (hq.1.trans z)))]
      exact .cons hq ih
theorem d_popT {v : V} {Q : Value → Shared → Prop} (hu : A.units + 1 < cLine) (I : Inv X pins σ H s) (e : H a = some (.dT kvs)) (eb : H b = some (.tup (k.map kV))) (l : valV kvs k = some v)
    (h : ∀ w' s', Inv X pins σ (upd H a (.dT (dropK kvs k))) s' → RelV v w' → Q w' s') : wpAny (model X.prog X.w) A (call (.builtin "dict.pop") [.ref a, .ref b]) Q E s := by
  obtain ⟨z, hd, xs, rel, dd⟩ := dt_of I.hok e
  obtain ⟨w', hw, rw'⟩ := RelO.some_of (v := v) (o := (atKey xs k).map (·.2)) (by rw [← l]; exact rel.val k)
  obtain ⟨p, hp, hp2⟩ := Option.map_eq_some_iff.mp hw
  have hz : xs.length ≤ sizeLine := by rw [← Paired.length rel]; exact z
  refine call_meetsIn PySem.F.slot_dict_pop dd.typeIs PySem.F.entry_dict_pop (PySem.F.args_dict_pop_2 _ _) (PT.pop_meets (knd := tupleKind (mixKind X.prog X.w))) ⟨tupleKind_room_in1 hu, k, xs, p, key_of I.hok eb, dd, hz, hp, fun h' dd' hs => ?_⟩
  rw [hp2]
  refine h w' _ ?_ rw'
  obtain ⟨q, es, ep, hq, h2, h3, h4, _, h5⟩ := dd'
  refine d_write I (by rw [e]; exact True.intro) hs ⟨q, hq⟩ ⟨Nat.le_trans (dropK_le kvs k) z, hd, _, (rel.drop k).keeps fun c ys ec => ?_, q, es, ep, hq, h2, h3, h4, h5⟩
  rw [upd_ne (ne_of ec e (fun z => nomatch z))]
  exact ec
end
end L2
set_option Elab.async false
set_option linter.all false
set_option maxHeartbeats 4000000
namespace M
def sp (m i : Nat) : Int × Int := if i < 4 * m then (((i / 4 : Nat) : Int), ((i % 4 : Nat) : Int)) else (-1, ((i - 4 * m : Nat) : Int))
structure Tw (n : Nat) (A : Nat → Int) (g : Nat → Nat) : Prop where
  lt : ∀ i, i < n → g i < n
  ne : ∀ i, i < n → g i ≠ i
  eq : ∀ i, i < n → A (g i) = A i
  only : ∀ i k, i < n → k < n → A k = A i → k = i ∨ k = g i
theorem Tw.inv {n : Nat} {A : Nat → Int} {g : Nat → Nat} (T : Tw n A g) {i : Nat} (h : i < n) : g (g i) = i := by
  rcases T.only (g i) i (T.lt i h) h (T.eq i h).symm with z | z
  · exact absurd z.symm (T.ne i h)
  · exact z.symm
def addP (P : List (Int × List Nat)) (a : Int) (i : Nat) : List (Int × List Nat) :=
  if (P.any fun e => decide (e.1 = a)) = true then P.map (fun e => if e.1 = a then (e.1, e.2 ++ [i]) else e) else P ++ [(a, [i])]
def plc (A : Nat → Int) (t : Nat) : List (Int × List Nat) := (List.range t).foldl (fun P i => addP P (A i) i) []
def nx (m e i : Nat) : Nat := if i < 4 * m then 4 * (i / 4) + (i % 4 + 3) % 4 else 4 * m + (i - 4 * m + 1) % e
end M
set_option Elab.async false
set_option linter.all false
set_option maxRecDepth 100000
set_option maxHeartbeats 4000000
namespace PV
open PySem PySem.Spec L2
inductive Ty where
  | int | bool | str | tuple | list | dict
  deriving DecidableEq
def Ty.nm : Ty → String
  | .int => "int" | .bool => "bool" | .str => "str" | .tuple => "tuple" | .list => "list" | .dict => "dict"
inductive D where
  | non
  | bl (b : Bool)
  | int (i : Int)
  | str (x : Str)
  | tup (xs : List D)
  | lst (xs : List D)
  | dik (kvs : List (Key × D))
  | dit (kvs : List (List Key × D))
  | kls (xs : List D)
  | ty (t : Ty)
  | fdk (kvs : List (Key × D))
  | ftp (xs : List D)
  | fls (xs : List D)
def imm : HO → Bool
  | .tup _ => true
  | .frz _ _ => true
  | _ => false
def FzL (K : PySem.W.Frag) (H : Hp) (a : Addr) (xs : List V) : Prop :=
  (∃ o, H a = some (.frz o (.lst xs))) ∨
    ∃ (o : Obj) (its : Array Value) (n : Nat), K.lookup a = some o ∧ o.cls = .type "list" ∧ o.dict = none ∧ o.data = .seq its n ∧ its.size ≤ sizeLine ∧ Vals xs its.toList
theorem FzL.sq {K : PySem.W.Frag} {H : Hp} {a : Addr} {xs : List V} (h : FzL K H a xs) : SqL K H a xs := by
  rcases h with h | h
  · exact .inl (.inr h)
  · exact .inr h
mutual
/-- the value v is the datum d; F: the addresses of all lists and dicts in it, in their order -/
inductive Rep (K : PySem.W.Frag) (H : Hp) : D → V → List Addr → Prop
  | non : Rep K H .non .non []
  | bl (b : Bool) : Rep K H (.bl b) (.bl b) []
  | int (i : Int) : Rep K H (.int i) (.int i) []
  | str (x : Str) : Rep K H (.str x) (.str x) []
  | tup {a : Addr} {xs : List V} {ds : List D} {F : List Addr} (e : H a = some (.tup xs)) (r : Reps K H ds xs F) : Rep K H (.tup ds) (.ref a) F
  | lst {a : Addr} {xs : List V} {ds : List D} {F : List Addr} (e : H a = some (.lst xs)) (r : Reps K H ds xs F) : Rep K H (.lst ds) (.ref a) (a :: F)
  | dik {a : Addr} {kvs : List (Key × V)} {ds : List (Key × D)} {F : List Addr} (e : H a = some (.dK kvs)) (r : RepK K H ds kvs F) : Rep K H (.dik ds) (.ref a) (a :: F)
  | dit {a : Addr} {kvs : List (List Key × V)} {ds : List (List Key × D)} {F : List Addr} (e : H a = some (.dT kvs)) (r : RepT K H ds kvs F) : Rep K H (.dit ds) (.ref a) (a :: F)
  | kls {a : Addr} {xs : List V} {ds : List D} (e : FzL K H a xs) (r : Reps K H ds xs []) : Rep K H (.kls ds) (.ref a) []
  | ty (t : Ty) : Rep K H (.ty t) (.ty t.nm) []
  | fdk {a : Addr} {o : Obj} {kvs : List (Key × V)} {ds : List (Key × D)} {F : List Addr} (e : H a = some (.frz o (.dK kvs))) (r : RepK K H ds kvs F) : Rep K H (.fdk ds) (.ref a) F
  | ftp {a : Addr} {o : Obj} {xs : List V} {ds : List D} (e : H a = some (.frz o (.tup xs))) (hd : o.dict = none) (r : Reps K H ds xs []) : Rep K H (.ftp ds) (.ref a) []
  | fls {a : Addr} {o : Obj} {xs : List V} {ds : List D} (e : H a = some (.frz o (.lst xs))) (r : Reps K H ds xs []) : Rep K H (.fls ds) (.ref a) []
inductive Reps (K : PySem.W.Frag) (H : Hp) : List D → List V → List Addr → Prop
  | nil : Reps K H [] [] []
  | cons {d : D} {v : V} {ds : List D} {vs : List V} {F G : List Addr} (h : Rep K H d v F) (r : Reps K H ds vs G) : Reps K H (d :: ds) (v :: vs) (F ++ G)
inductive RepK (K : PySem.W.Frag) (H : Hp) : List (Key × D) → List (Key × V) → List Addr → Prop
  | nil : RepK K H [] [] []
  | cons {k : Key} {d : D} {v : V} {ds : List (Key × D)} {vs : List (Key × V)} {F G : List Addr} (h : Rep K H d v F) (r : RepK K H ds vs G) : RepK K H ((k, d) :: ds) ((k, v) :: vs) (F ++ G)
inductive RepT (K : PySem.W.Frag) (H : Hp) : List (List Key × D) → List (List Key × V) → List Addr → Prop
  | nil : RepT K H [] [] []
  | cons {k : List Key} {d : D} {v : V} {ds : List (List Key × D)} {vs : List (List Key × V)} {F G : List Addr} (h : Rep K H d v F) (r : RepT K H ds vs G) : RepT K H ((k, d) :: ds) ((k, v) :: vs) (F ++ G)
end
def ImmK (H H' : Hp) : Prop := ∀ b ob, H b = some ob → imm ob = true → H' b = some ob
theorem ImmK.fzL {K : PySem.W.Frag} {H H' : Hp} (hi : ImmK H H') {a : Addr} {xs : List V} (e : FzL K H a xs) : FzL K H' a xs := by
  rcases e with ⟨o, e⟩ | e
  · exact .inl ⟨o, hi _ _ e rfl⟩
  · exact .inr e
mutual
theorem Rep.frame {K : PySem.W.Frag} {H H' : Hp} (hi : ImmK H H') : ∀ {d : D} {v : V} {F : List Addr}, Rep K H d v F → (∀ a ∈ F, H' a = H a) → Rep K H' d v F
  | _, _, _, .non, _ => .non
  | _, _, _, .bl b, _ => .bl b
  | _, _, _, .int b, _ => .int b
  | _, _, _, .str b, _ => .str b
  | _, _, _, .tup e r, k => .tup (hi _ _ e rfl) (Reps.frame hi r k)
  | _, _, _, .lst e r, k => .lst ((k _ (List.mem_cons_self)).trans e) (Reps.frame hi r fun a h => k a (List.mem_cons_of_mem _ h))
  | _, _, _, .dik e r, k => .dik ((k _ (List.mem_cons_self)).trans e) (RepK.frame hi r fun a h => k a (List.mem_cons_of_mem _ h))
  | _, _, _, .dit e r, k => .dit ((k _ (List.mem_cons_self)).trans e) (RepT.frame hi r fun a h => k a (List.mem_cons_of_mem _ h))
  | _, _, _, .kls e r, k => .kls (hi.fzL e) (Reps.frame hi r k)
  | _, _, _, .ty t, _ => .ty t
  | _, _, _, .fdk e r, k => .fdk (hi _ _ e rfl) (RepK.frame hi r k)
  | _, _, _, .ftp e hd r, k => .ftp (hi _ _ e rfl) hd (Reps.frame hi r k)
  | _, _, _, .fls e r, k => .fls (hi _ _ e rfl) (Reps.frame hi r k)
theorem Reps.frame {K : PySem.W.Frag} {H H' : Hp} (hi : ImmK H H') : ∀ {d : List D} {v : List V} {F : List Addr}, Reps K H d v F → (∀ a ∈ F, H' a = H a) → Reps K H' d v F
  | _, _, _, .nil, _ => .nil
  | _, _, _, .cons h r, k => .cons (Rep.frame hi h fun a q => k a (List.mem_append.mpr (.inl q))) (Reps.frame hi r fun a q => k a (List.mem_append.mpr (.inr q)))
theorem RepK.frame {K : PySem.W.Frag} {H H' : Hp} (hi : ImmK H H') : ∀ {d : List (Key × D)} {v : List (Key × V)} {F : List Addr}, RepK K H d v F → (∀ a ∈ F, H' a = H a) → RepK K H' d v F
  | _, _, _, .nil, _ => .nil
  | _, _, _, .cons h r, k => .cons (Rep.frame hi h fun a q => k a (List.mem_append.mpr (.inl q))) (RepK.frame hi r fun a q => k a (List.mem_append.mpr (.inr q)))
theorem RepT.frame {K : PySem.W.Frag} {H H' : Hp} (hi : ImmK H H') : ∀ {d : List (List Key × D)} {v : List (List Key × V)} {F : List Addr}, RepT K H d v F → (∀ a ∈ F, H' a = H a) → RepT K H' d v F
  | _, _, _, .nil, _ => .nil
  | _, _, _, .cons h r, k => .cons (Rep.frame hi h fun a q => k a (List.mem_append.mpr (.inl q))) (RepT.frame hi r fun a q => k a (List.mem_append.mpr (.inr q)))
end
mutual
/-- the trees' addresses are changeable objects of the heap -/
theorem Rep.dom {K : PySem.W.Frag} {H : Hp} : ∀ {d : D} {v : V} {F : List Addr}, Rep K H d v F → ∀ a ∈ F, ∃ ob, H a = some ob ∧ imm ob = false
  | _, _, _, .tup _ r, a, m => Reps.dom r a m
  | _, _, _, .lst e r, a, m => by
    rcases List.mem_cons.mp m with rfl | m
    · exact ⟨_, e, rfl⟩
    · exact Reps.dom r a m
  | _, _, _, .dik e r, a, m => by
    rcases List.mem_cons.mp m with rfl | m
    · exact ⟨_, e, rfl⟩
    · exact RepK.dom r a m
  | _, _, _, .dit e r, a, m => by
    rcases List.mem_cons.mp m with rfl | m
    · exact ⟨_, e, rfl⟩
    · exact RepT.dom r a m
  | _, _, _, .kls e r, a, m => nomatch m
  | _, _, _, .fdk e r, a, m => RepK.dom r a m
  | _, _, _, .ftp e hd r, a, m => nomatch m
  | _, _, _, .fls e r, a, m => nomatch m
theorem Reps.dom {K : PySem.W.Frag} {H : Hp} : ∀ {d : List D} {v : List V} {F : List Addr}, Reps K H d v F → ∀ a ∈ F, ∃ ob, H a = some ob ∧ imm ob = false
  | _, _, _, .cons h r, a, m => by
    rcases List.mem_append.mp m with m | m
    · exact Rep.dom h a m
    · exact Reps.dom r a m
theorem RepK.dom {K : PySem.W.Frag} {H : Hp} : ∀ {d : List (Key × D)} {v : List (Key × V)} {F : List Addr}, RepK K H d v F → ∀ a ∈ F, ∃ ob, H a = some ob ∧ imm ob = false
  | _, _, _, .cons h r, a, m => by
    rcases List.mem_append.mp m with m | m
    · exact Rep.dom h a m
    · exact RepK.dom r a m
theorem RepT.dom {K : PySem.W.Frag} {H : Hp} : ∀ {d : List (List Key × D)} {v : List (List Key × V)} {F : List Addr}, RepT K H d v F → ∀ a ∈ F, ∃ ob, H a = some ob ∧ imm ob = false
  | _, _, _, .cons h r, a, m => by
    rcases List.mem_append.mp m with m | m
    · exact Rep.dom h a m
    · exact RepT.dom r a m
end
mutual
def D.pure : D → Bool
  | .tup xs => pureL xs
  | .lst _ => false
  | .dik _ => false
  | .dit _ => false
  | .kls _ => false
  | .non => true
  | .bl _ => true
  | .int _ => true
  | .str _ => true
  | .ty _ => true
  | .fdk _ => false
  | .ftp _ => true
  | .fls _ => true
def pureL : List D → Bool
  | [] => true
  | d :: r => d.pure && pureL r
end
theorem pureL_iff {xs : List D} : pureL xs = true ↔ ∀ x ∈ xs, x.pure = true := by
  induction xs with
  | nil => simp [pureL]
  | cons d r ih => simp only [pureL, Bool.and_eq_true, ih, List.mem_cons, forall_eq_or_imp]
mutual
theorem Rep.pure {K : PySem.W.Frag} {H : Hp} : ∀ {d : D} {v : V} {F : List Addr}, Rep K H d v F → d.pure = true → F = [] ∧ Rep K H d v []
  | _, _, _, .non, _ => ⟨rfl, .non⟩
  | _, _, _, .bl b, _ => ⟨rfl, .bl b⟩
  | _, _, _, .int b, _ => ⟨rfl, .int b⟩
  | _, _, _, .str b, _ => ⟨rfl, .str b⟩
  | _, _, _, .tup e r, p => by
    have q := Reps.pure r (by simpa [D.pure] using p)
    exact ⟨q.1, .tup e q.2⟩
  | _, _, _, .lst e r, p => by simp [D.pure] at p
  | _, _, _, .dik e r, p => by simp [D.pure] at p
  | _, _, _, .dit e r, p => by simp [D.pure] at p
  | _, _, _, .kls e r, p => by simp [D.pure] at p
  | _, _, _, .ty b, _ => ⟨rfl, .ty b⟩
  | _, _, _, .fdk e r, p => by simp [D.pure] at p
  | _, _, _, .ftp e hd r, p => ⟨rfl, .ftp e hd r⟩
  | _, _, _, .fls e r, p => ⟨rfl, .fls e r⟩
theorem Reps.pure {K : PySem.W.Frag} {H : Hp} : ∀ {d : List D} {v : List V} {F : List Addr}, Reps K H d v F → pureL d = true → F = [] ∧ Reps K H d v []
  | _, _, _, .nil, _ => ⟨rfl, .nil⟩
  | _, _, _, .cons h r, p => by
    simp only [pureL, Bool.and_eq_true] at p
    obtain ⟨e1, r1⟩ := Rep.pure h p.1
    obtain ⟨e2, r2⟩ := Reps.pure r p.2
    subst e1 e2
    exact ⟨rfl, .cons (F := []) (G := []) r1 r2⟩
end
section
variable {K : PySem.W.Frag} {H : Hp}
theorem Reps.length {ds : List D} {xs : List V} {F : List Addr} (r : Reps K H ds xs F) : xs.length = ds.length := by
  induction ds generalizing xs F with
  | nil => cases r; rfl
  | cons d ds ih => cases r with | cons h r => simp [ih r]
theorem Reps.append {ds es : List D} {xs ys : List V} {F G : List Addr} (r : Reps K H ds xs F) (q : Reps K H es ys G) : Reps K H (ds ++ es) (xs ++ ys) (F ++ G) := by
  induction ds generalizing xs F with
  | nil => cases r; exact q
  | cons d ds ih => cases r with | cons h r => rw [List.append_assoc]; exact .cons h (ih r)
theorem Reps.one {d : D} {x : V} {F : List Addr} (h : Rep K H d x F) : Reps K H [d] [x] F := by
  have := Reps.cons h (Reps.nil (K := K) (H := H))
  rwa [List.append_nil] at this
theorem Reps.snoc {ds : List D} {xs : List V} {d : D} {x : V} {F G : List Addr} (r : Reps K H ds xs F) (h : Rep K H d x G) : Reps K H (ds ++ [d]) (xs ++ [x]) (F ++ G) := r.append (.one h)
theorem Reps.split {ds : List D} {xs : List V} {F : List Addr} {i : Nat} {d : D} (r : Reps K H ds xs F) (h : ds[i]? = some d) :
    ∃ x A B C, xs[i]? = some x ∧ F = A ++ B ++ C ∧ Rep K H d x B ∧ Reps K H (ds.take i) (xs.take i) A ∧ Reps K H (ds.drop (i + 1)) (xs.drop (i + 1)) C := by
  induction ds generalizing xs F i with
  | nil => simp at h
  | cons e ds ih =>
    cases r with
    | @cons _ v _ vs F G p r =>
      cases i with
      | zero =>
        simp at h
        subst h
        exact ⟨v, [], F, G, rfl, by simp, p, .nil, by simpa using r⟩
      | succ i =>
        obtain ⟨x, A, B, C, h1, h2, h3, h4, h5⟩ := ih r (i := i) (by simpa using h)
        exact ⟨x, F ++ A, B, C, by simpa using h1, by rw [h2]; simp, h3, by simpa using Reps.cons p h4, by simpa using h5⟩
theorem Reps.get {ds : List D} {xs : List V} {F : List Addr} {i : Nat} {d : D} (r : Reps K H ds xs F) (h : ds[i]? = some d) : ∃ x B, xs[i]? = some x ∧ Rep K H d x B ∧ B.Sublist F := by
  obtain ⟨x, A, B, C, h1, h2, h3, _⟩ := r.split h
  exact ⟨x, B, h1, h3, h2 ▸ (List.sublist_append_right A B).trans (List.sublist_append_left _ C)⟩
theorem take_set_drop {α : Type} {l : List α} {i : Nat} {a : α} (h : i < l.length) : l.set i a = l.take i ++ a :: l.drop (i + 1) := by
  rw [List.set_eq_take_append_cons_drop, if_pos h]
theorem Reps.take {ds : List D} {xs : List V} {F : List Addr} (i : Nat) (r : Reps K H ds xs F) : ∃ G, Reps K H (ds.take i) (xs.take i) G ∧ G.Sublist F := by
  induction ds generalizing xs F i with
  | nil => cases r; exact ⟨[], by simpa using Reps.nil, List.Sublist.slnil⟩
  | cons d ds ih =>
    cases r with
    | @cons _ v _ vs F G p r =>
      cases i with
      | zero => exact ⟨[], by simpa using Reps.nil, List.nil_sublist _⟩
      | succ i =>
        obtain ⟨G', q, s⟩ := ih i r
        exact ⟨F ++ G', by simpa using Reps.cons p q, List.Sublist.append (List.Sublist.refl _) s⟩
theorem Reps.drop {ds : List D} {xs : List V} {F : List Addr} (i : Nat) (r : Reps K H ds xs F) : ∃ G, Reps K H (ds.drop i) (xs.drop i) G ∧ G.Sublist F := by
  induction ds generalizing xs F i with
  | nil => cases r; exact ⟨[], by simpa using Reps.nil, List.Sublist.slnil⟩
  | cons d ds ih =>
    cases i with
    | zero => exact ⟨F, by simpa using r, List.Sublist.refl _⟩
    | succ i =>
      cases r with
      | @cons _ v _ vs F G p r =>
        obtain ⟨G', q, s⟩ := ih i r
        exact ⟨G', by simpa using q, s.trans (List.sublist_append_right _ _)⟩
theorem Reps.flat {ds : List D} (f : D → V) (hf : ∀ d ∈ ds, Rep K H d (f d) []) : Reps K H ds (ds.map f) [] := by
  induction ds with
  | nil => exact .nil
  | cons d ds ih => exact .cons (F := []) (G := []) (hf d List.mem_cons_self) (ih fun e he => hf e (List.mem_cons_of_mem _ he))
theorem Reps.ints (ns : List Int) : Reps K H (ns.map D.int) (ns.map V.int) [] := by
  induction ns with
  | nil => exact .nil
  | cons n ns ih => exact .cons (F := []) (G := []) (.int n) ih
theorem Reps.of_ints {ns : List Int} {xs : List V} {F : List Addr} (r : Reps K H (ns.map D.int) xs F) : xs = ns.map V.int ∧ F = [] := by
  induction ns generalizing xs F with
  | nil => cases r; exact ⟨rfl, rfl⟩
  | cons n ns ih =>
    cases r with
    | cons h r =>
      cases h
      obtain ⟨e1, e2⟩ := ih r
      exact ⟨by rw [e1]; rfl, by rw [e2]; rfl⟩
end
section
variable {κ : Type} [DecidableEq κ]
def valD (kvs : List (κ × D)) (k : κ) : Option D := (kvs.find? fun kv => decide (kv.1 = k)).map (·.2)
def putD (kvs : List (κ × D)) (k : κ) (v : D) : List (κ × D) :=
  if (kvs.any fun kv => decide (kv.1 = k)) = true then kvs.map (fun kv => if kv.1 = k then (kv.1, v) else kv) else kvs ++ [(k, v)]
def dropD (kvs : List (κ × D)) (k : κ) : List (κ × D) := kvs.filter fun kv => decide (kv.1 ≠ k)
theorem valD_cons {p : κ × D} {r : List (κ × D)} {k : κ} : valD (p :: r) k = if p.1 = k then some p.2 else valD r k := by
  unfold valD
  by_cases h : p.1 = k
  · rw [List.find?_cons_of_pos (by simpa using h), if_pos h]; rfl
  · rw [List.find?_cons_of_neg (by simpa using h), if_neg h]
end
section
variable {K : PySem.W.Frag} {H : Hp}
theorem RepK.length {ds : List (Key × D)} {xs : List (Key × V)} {F : List Addr} (r : RepK K H ds xs F) : xs.length = ds.length := by
  induction ds generalizing xs F with
  | nil => cases r; rfl
  | cons d ds ih => cases r with | cons h r => simp [ih r]
theorem RepK.keys {ds : List (Key × D)} {xs : List (Key × V)} {F : List Addr} (r : RepK K H ds xs F) : xs.map (·.1) = ds.map (·.1) := by
  induction ds generalizing xs F with
  | nil => cases r; rfl
  | cons d ds ih => cases r with | cons h r => simp [ih r]
theorem RepK.val {ds : List (Key × D)} {xs : List (Key × V)} {F : List Addr} (r : RepK K H ds xs F) (k : Key) :
    (valD ds k = none ∧ valV xs k = none) ∨ ∃ d v B, valD ds k = some d ∧ valV xs k = some v ∧ Rep K H d v B ∧ B.Sublist F := by
  induction ds generalizing xs F with
  | nil => cases r; exact .inl ⟨rfl, rfl⟩
  | cons d ds ih =>
    cases r with
    | @cons j d v _ vs F G h r =>
      rw [valD_cons]
      by_cases e : j = k
      · rw [valV_pos e, if_pos e]
        exact .inr ⟨d, v, F, rfl, rfl, h, List.sublist_append_left _ _⟩
      · rw [valV_neg e, if_neg e]
        rcases ih r with q | ⟨d', v', B, h1, h2, h3, h4⟩
        · exact .inl q
        · exact .inr ⟨d', v', B, h1, h2, h3, h4.trans (List.sublist_append_right _ _)⟩
theorem RepK.append {ds es : List (Key × D)} {xs ys : List (Key × V)} {F G : List Addr} (r : RepK K H ds xs F) (q : RepK K H es ys G) : RepK K H (ds ++ es) (xs ++ ys) (F ++ G) := by
  induction ds generalizing xs F with
  | nil => cases r; exact q
  | cons d ds ih => cases r with | cons h r => rw [List.append_assoc]; exact .cons h (ih r)
theorem RepK.put {ds : List (Key × D)} {xs : List (Key × V)} {F : List Addr} {k : Key} {d : D} {v : V} (r : RepK K H ds xs F) (h : Rep K H d v []) : ∃ G, RepK K H (putD ds k d) (putK xs k v) G ∧ G.Sublist F := by
  have hk : (xs.any fun kv => decide (kv.1 = k)) = (ds.any fun kv => decide (kv.1 = k)) := by
    have e := r.keys
    rw [show (xs.any fun kv => decide (kv.1 = k)) = (xs.map (·.1)).any (fun j => decide (j = k)) by rw [List.any_map]; rfl, e, List.any_map]; rfl
  unfold putD putK
  rw [hk]
  split
  · clear hk
    rename_i hc
    clear hc
    induction ds generalizing xs F with
    | nil => cases r; exact ⟨[], .nil, List.Sublist.slnil⟩
    | cons e ds ih =>
      cases r with
      | @cons j e u _ us F G p r =>
        obtain ⟨G', q, s⟩ := ih r
        by_cases ej : j = k
        · exact ⟨[] ++ G', by simpa [ej] using RepK.cons (k := k) h q, s.trans (List.sublist_append_right _ _)⟩
        · exact ⟨F ++ G', by simpa [ej] using RepK.cons (k := j) p q, List.Sublist.append (List.Sublist.refl _) s⟩
  · refine ⟨F ++ [], r.append ?_, by simp⟩
    exact RepK.cons (F := []) (G := []) h .nil
theorem RepK.drop {ds : List (Key × D)} {xs : List (Key × V)} {F : List Addr} {k : Key} (r : RepK K H ds xs F) : ∃ G, RepK K H (dropD ds k) (dropK xs k) G ∧ G.Sublist F := by
  induction ds generalizing xs F with
  | nil => cases r; exact ⟨[], .nil, List.Sublist.slnil⟩
  | cons e ds ih =>
    cases r with
    | @cons j e u _ us F G p r =>
      obtain ⟨G', q, s⟩ := ih r
      unfold dropD dropK at *
      by_cases ej : j = k
      · exact ⟨G', by simpa [ej] using q, s.trans (List.sublist_append_right _ _)⟩
      · exact ⟨F ++ G', by simpa [ej] using RepK.cons (k := j) p q, List.Sublist.append (List.Sublist.refl _) s⟩
theorem RepT.length {ds : List (List Key × D)} {xs : List (List Key × V)} {F : List Addr} (r : RepT K H ds xs F) : xs.length = ds.length := by
  induction ds generalizing xs F with
  | nil => cases r; rfl
  | cons d ds ih => cases r with | cons h r => simp [ih r]
theorem RepT.keys {ds : List (List Key × D)} {xs : List (List Key × V)} {F : List Addr} (r : RepT K H ds xs F) : xs.map (·.1) = ds.map (·.1) := by
  induction ds generalizing xs F with
  | nil => cases r; rfl
  | cons d ds ih => cases r with | cons h r => simp [ih r]
theorem RepT.val {ds : List (List Key × D)} {xs : List (List Key × V)} {F : List Addr} (r : RepT K H ds xs F) (k : List Key) :
    (valD ds k = none ∧ valV xs k = none) ∨ ∃ d v B, valD ds k = some d ∧ valV xs k = some v ∧ Rep K H d v B ∧ B.Sublist F := by
  induction ds generalizing xs F with
  | nil => cases r; exact .inl ⟨rfl, rfl⟩
  | cons d ds ih =>
    cases r with
    | @cons j d v _ vs F G h r =>
      rw [valD_cons]
      by_cases e : j = k
      · rw [valV_pos e, if_pos e]
        exact .inr ⟨d, v, F, rfl, rfl, h, List.sublist_append_left _ _⟩
      · rw [valV_neg e, if_neg e]
        rcases ih r with q | ⟨d', v', B, h1, h2, h3, h4⟩
        · exact .inl q
        · exact .inr ⟨d', v', B, h1, h2, h3, h4.trans (List.sublist_append_right _ _)⟩
theorem RepT.append {ds es : List (List Key × D)} {xs ys : List (List Key × V)} {F G : List Addr} (r : RepT K H ds xs F) (q : RepT K H es ys G) : RepT K H (ds ++ es) (xs ++ ys) (F ++ G) := by
  induction ds generalizing xs F with
  | nil => cases r; exact q
  | cons d ds ih => cases r with | cons h r => rw [List.append_assoc]; exact .cons h (ih r)
theorem RepT.put {ds : List (List Key × D)} {xs : List (List Key × V)} {F : List Addr} {k : List Key} {d : D} {v : V} (r : RepT K H ds xs F) (h : Rep K H d v []) : ∃ G, RepT K H (putD ds k d) (putK xs k v) G ∧ G.Sublist F := by
  have hk : (xs.any fun kv => decide (kv.1 = k)) = (ds.any fun kv => decide (kv.1 = k)) := by
    have e := r.keys
    rw [show (xs.any fun kv => decide (kv.1 = k)) = (xs.map (·.1)).any (fun j => decide (j = k)) by rw [List.any_map]; rfl, e, List.any_map]; rfl
  unfold putD putK
  rw [hk]
  split
  · clear hk
    rename_i hc
    clear hc
    induction ds generalizing xs F with
    | nil => cases r; exact ⟨[], .nil, List.Sublist.slnil⟩
    | cons e ds ih =>
      cases r with
      | @cons j e u _ us F G p r =>
        obtain ⟨G', q, s⟩ := ih r
        by_cases ej : j = k
        · exact ⟨[] ++ G', by simpa [ej] using RepT.cons (k := k) h q, s.trans (List.sublist_append_right _ _)⟩
        · exact ⟨F ++ G', by simpa [ej] using RepT.cons (k := j) p q, List.Sublist.append (List.Sublist.refl _) s⟩
  · refine ⟨F ++ [], r.append ?_, by simp⟩
    exact RepT.cons (F := []) (G := []) h .nil
theorem RepT.drop {ds : List (List Key × D)} {xs : List (List Key × V)} {F : List Addr} {k : List Key} (r : RepT K H ds xs F) : ∃ G, RepT K H (dropD ds k) (dropK xs k) G ∧ G.Sublist F := by
  induction ds generalizing xs F with
  | nil => cases r; exact ⟨[], .nil, List.Sublist.slnil⟩
  | cons e ds ih =>
    cases r with
    | @cons j e u _ us F G p r =>
      obtain ⟨G', q, s⟩ := ih r
      unfold dropD dropK at *
      by_cases ej : j = k
      · exact ⟨G', by simpa [ej] using q, s.trans (List.sublist_append_right _ _)⟩
      · exact ⟨F ++ G', by simpa [ej] using RepT.cons (k := j) p q, List.Sublist.append (List.Sublist.refl _) s⟩
end
end PV
set_option Elab.async false
set_option linter.all false
set_option maxRecDepth 100000
set_option maxHeartbeats 4000000
namespace PV
open PySem PySem.Spec L2
abbrev Env := List (Option D)
def look : Env → Nat → Option D
  | [], _ => none
  | a :: _, 0 => a
  | _ :: r, n + 1 => look r n
theorem look_get : ∀ {ρ : Env} {i : Nat} {d : D}, look ρ i = some d → ρ[i]? = some (some d)
  | _ :: _, 0, _, h => by simpa [look] using h
  | _ :: r, n + 1, _, h => by simpa using look_get (ρ := r) (i := n) (by simpa [look] using h)
theorem look_lt {ρ : Env} {i : Nat} {d : D} (h : look ρ i = some d) : i < ρ.length := by
  have := look_get h
  exact (List.getElem?_eq_some_iff.mp this).1
theorem look_set {o : Option D} : ∀ {ρ : Env} {i j : Nat}, look (ρ.set i o) j = if j = i ∧ i < ρ.length then o else look ρ j
  | [], i, j => by simp [look]
  | a :: r, 0, 0 => by simp [look]
  | a :: r, 0, j + 1 => by simp [look]
  | a :: r, i + 1, 0 => by simp [look]
  | a :: r, i + 1, j + 1 => by
    have := look_set (o := o) (ρ := r) (i := i) (j := j)
    simp only [List.set_cons_succ, look, this, List.length_cons, Nat.add_right_cancel_iff, Nat.add_lt_add_iff_right]
theorem look_set_same {o : Option D} {ρ : Env} {i : Nat} (h : i < ρ.length) : look (ρ.set i o) i = o := by rw [look_set, if_pos ⟨rfl, h⟩]
theorem look_set_ne {o : Option D} {ρ : Env} {i j : Nat} (h : j ≠ i) : look (ρ.set i o) j = look ρ j := by rw [look_set, if_neg (fun z => h z.1)]
structure Tg where
  own : Nat → Bool
  io : List Nat
structure SR0 (K : PySem.W.Frag) (T : Tg) (z : Nat → V) (R : Addr → Prop) (H : Hp) (W : Addr → Prop) (σ : St) (ρ : Env) (fp : Nat → List Addr) : Prop where
  len : ρ.length = σ.length
  wd : ∀ a, W a → ∃ ob, H a = some ob ∧ imm ob = false
  at_ : ∀ i d, look ρ i = some d → ∃ v, σ[i]? = some (some v) ∧ Rep K H d v (fp i)
  own : ∀ i d, look ρ i = some d → T.own i = true → (fp i).Nodup ∧ ∀ a ∈ fp i, W a
  ro : ∀ i d, look ρ i = some d → T.own i = false → ∀ a ∈ fp i, R a
  wr : ∀ a, W a → ¬ R a
  rd : ∀ a, R a → ∃ ob, H a = some ob ∧ imm ob = false
  dis : ∀ i j d e, look ρ i = some d → look ρ j = some e → T.own i = true → T.own j = true → i ≠ j → ∀ a ∈ fp i, a ∉ fp j
  fix : ∀ i ∈ T.io, σ[i]? = some (some (z i))
def SR (K : PySem.W.Frag) (T : Tg) (z : Nat → V) (R : Addr → Prop) (H : Hp) (W : Addr → Prop) (σ : St) (ρ : Env) : Prop := ∃ fp, SR0 K T z R H W σ ρ fp
structure FrW (H : Hp) (W : Addr → Prop) (H' : Hp) (W' : Addr → Prop) : Prop where
  keep : ∀ b ob, H b = some ob → ¬ W b → H' b = some ob
  dom : ∀ b, H' b = none → H b = none
  imm : ImmK H H'
  new : ∀ b, W' b → W b ∨ H b = none
theorem FrW.refl (H : Hp) (W : Addr → Prop) : FrW H W H W := ⟨fun _ _ h _ => h, fun _ h => h, fun _ _ h _ => h, fun _ h => .inl h⟩
theorem FrW.trans {H H1 H2 : Hp} {W W1 W2 : Addr → Prop} (a : FrW H W H1 W1) (b : FrW H1 W1 H2 W2) : FrW H W H2 W2 where
  keep := fun c ob h n => b.keep c ob (a.keep c ob h n) fun w => by
    rcases a.new c w with w | w
    · exact n w
    · rw [w] at h; cases h
  dom := fun c h => a.dom c (b.dom c h)
  imm := fun c ob h i => b.imm c ob (a.imm c ob h i) i
  new := fun c h => by
    rcases b.new c h with w | w
    · exact a.new c w
    · exact .inr (a.dom c w)
theorem Same.imm {H H' : Hp} (s : Same H H') : ImmK H H' := fun b ob h _ => s b ob h
theorem FrW.same {H H' : Hp} (W : Addr → Prop) (s : Same H H') : FrW H W H' W := ⟨fun b ob h _ => s b ob h, fun b h => s.free h, Same.imm s, fun _ h => .inl h⟩
theorem Rep.same {K : PySem.W.Frag} {H H' : Hp} {d : D} {v : V} {F : List Addr} (r : Rep K H d v F) (s : Same H H') : Rep K H' d v F :=
  r.frame (Same.imm s) fun a m => by
    obtain ⟨ob, h, _⟩ := r.dom a m
    rw [h]; exact s _ _ h
theorem Reps.same {K : PySem.W.Frag} {H H' : Hp} {d : List D} {v : List V} {F : List Addr} (r : Reps K H d v F) (s : Same H H') : Reps K H' d v F :=
  r.frame (Same.imm s) fun a m => by
    obtain ⟨ob, h, _⟩ := r.dom a m
    rw [h]; exact s _ _ h
theorem Rep.keep {K : PySem.W.Frag} {H H' : Hp} {W W' : Addr → Prop} {d : D} {v : V} {F : List Addr} (r : Rep K H d v F) (f : FrW H W H' W') (n : ∀ a ∈ F, ¬ W a) : Rep K H' d v F :=
  r.frame f.imm fun a m => by
    obtain ⟨ob, h, _⟩ := r.dom a m
    rw [h]; exact f.keep _ _ h (n a m)
theorem Reps.keep {K : PySem.W.Frag} {H H' : Hp} {W W' : Addr → Prop} {d : List D} {v : List V} {F : List Addr} (r : Reps K H d v F) (f : FrW H W H' W') (n : ∀ a ∈ F, ¬ W a) : Reps K H' d v F :=
  r.frame f.imm fun a m => by
    obtain ⟨ob, h, _⟩ := r.dom a m
    rw [h]; exact f.keep _ _ h (n a m)
section
variable {K : PySem.W.Frag} {T : Tg} {z : Nat → V} {R : Addr → Prop} {H H' : Hp} {W W' : Addr → Prop} {σ : St} {ρ : Env}
theorem SR.same (s : SR K T z R H W σ ρ) (k : Same H H') : SR K T z R H' W σ ρ := by
  obtain ⟨fp, r⟩ := s
  exact ⟨fp, r.len, fun a h => (r.wd a h).imp fun ob q => ⟨k _ _ q.1, q.2⟩, fun i d h => (r.at_ i d h).imp fun v q => ⟨q.1, q.2.same k⟩, r.own, r.ro, r.wr, fun a h => (r.rd a h).imp fun ob q => ⟨k _ _ q.1, q.2⟩, r.dis, r.fix⟩
theorem SR.len (s : SR K T z R H W σ ρ) : ρ.length = σ.length := by obtain ⟨fp, r⟩ := s; exact r.len
theorem SR.wd (s : SR K T z R H W σ ρ) : ∀ a, W a → ∃ ob, H a = some ob ∧ imm ob = false := by obtain ⟨fp, r⟩ := s; exact r.wd
theorem SR.rd (s : SR K T z R H W σ ρ) : ∀ a, R a → ∃ ob, H a = some ob ∧ imm ob = false := by obtain ⟨fp, r⟩ := s; exact r.rd
theorem SR.wr (s : SR K T z R H W σ ρ) : ∀ a, W a → ¬ R a := by obtain ⟨fp, r⟩ := s; exact r.wr
theorem SR.nr (s : SR K T z R H W σ ρ) {a : Addr} (h : H a = none) : ¬ R a := fun w => by
  obtain ⟨ob, q, _⟩ := s.rd a w
  rw [h] at q; cases q
theorem SR.nw (s : SR K T z R H W σ ρ) {a : Addr} (h : H a = none) : ¬ W a := fun w => by
  obtain ⟨ob, q, _⟩ := s.wd a w
  rw [h] at q; cases q
theorem SR.drop (s : SR K T z R H W σ ρ) (i : Nat) : SR K T z R H W σ (ρ.set i none) := by
  obtain ⟨fp, r⟩ := s
  have key : ∀ j d, look (ρ.set i none) j = some d → look ρ j = some d := fun j d h => by
    rw [look_set] at h
    split at h
    · cases h
    · exact h
  exact ⟨fp, by rw [List.length_set]; exact r.len, r.wd, fun j d h => r.at_ j d (key j d h), fun j d h => r.own j d (key j d h), fun j d h => r.ro j d (key j d h), r.wr, r.rd, fun j k d e h h' => r.dis j k d e (key j d h) (key k e h'), r.fix⟩
end
abbrev WE := Env → (D → Env → Prop) → Prop
structure Post (K : PySem.W.Frag) (T : Tg) (z : Nat → V) (R : Addr → Prop) (m o : Bool) (H : Hp) (W : Addr → Prop) (σ : St) (ρ : Env) (H' : Hp) (W' : Addr → Prop) (ρ' : Env) (d : D) (v : V) (F : List Addr) : Prop where
  sr : SR K T z R H' W' σ ρ'
  fr : FrW H W H' W'
  calm : m = false → Same H H' ∧ W' = W ∧ ρ' = ρ
  rep : Rep K H' d v F
  own : o = true → F.Nodup ∧ ∀ a ∈ F, H a = none ∧ ¬ W' a
def EV (X : Cx) (T : Tg) (m o : Bool) (e : Expr) (w : WE) : Prop :=
  ∃ te, PE X e te ∧ ∀ (z : Nat → V) (R : Addr → Prop) (σ : St) (H : Hp) (W : Addr → Prop) (ρ : Env) (Q : D → Env → Prop) (Q' : VK), SR X.K T z R H W σ ρ → w ρ Q →
    (∀ v H' W' d ρ' F, Post X.K T z R m o H W σ ρ H' W' ρ' d v F → Q d ρ' → Q' v H') → te σ H Q'
section
variable {K : PySem.W.Frag} {T : Tg} {z : Nat → V} {R : Addr → Prop} {H H1 H2 : Hp} {W W1 W2 : Addr → Prop} {σ : St} {ρ ρ1 ρ2 : Env} {m1 m2 o1 o2 : Bool} {d1 d2 : D} {v1 v2 : V} {F1 F2 : List Addr}
theorem Post.first (p : Post K T z R m1 o1 H W σ ρ H1 W1 ρ1 d1 v1 F1) (q : Post K T z R m2 o2 H1 W1 σ ρ1 H2 W2 ρ2 d2 v2 F2) (hc : o1 = true ∨ m2 = false) : Rep K H2 d1 v1 F1 := by
  rcases hc with hc | hc
  · exact p.rep.keep q.fr fun a h => ((p.own hc).2 a h).2
  · exact p.rep.same (q.calm hc).1
theorem Post.firstOwn (p : Post K T z R m1 o1 H W σ ρ H1 W1 ρ1 d1 v1 F1) (q : Post K T z R m2 o2 H1 W1 σ ρ1 H2 W2 ρ2 d2 v2 F2) (h : o1 = true) : F1.Nodup ∧ ∀ a ∈ F1, H a = none ∧ ¬ W2 a := by
  obtain ⟨h1, h2⟩ := p.own h
  refine ⟨h1, fun a m => ⟨(h2 a m).1, fun w => ?_⟩⟩
  rcases q.fr.new a w with w | w
  · exact (h2 a m).2 w
  · obtain ⟨ob, e, _⟩ := p.rep.dom a m
    rw [e] at w; cases w
theorem Post.lastOwn (p : Post K T z R m1 o1 H W σ ρ H1 W1 ρ1 d1 v1 F1) (q : Post K T z R m2 o2 H1 W1 σ ρ1 H2 W2 ρ2 d2 v2 F2) (h : o2 = true) : F2.Nodup ∧ ∀ a ∈ F2, H a = none ∧ ¬ W2 a := by
  obtain ⟨h1, h2⟩ := q.own h
  exact ⟨h1, fun a m => ⟨p.fr.dom a (h2 a m).1, (h2 a m).2⟩⟩
theorem Post.calm2 (p : Post K T z R m1 o1 H W σ ρ H1 W1 ρ1 d1 v1 F1) (q : Post K T z R m2 o2 H1 W1 σ ρ1 H2 W2 ρ2 d2 v2 F2) (h : (m1 || m2) = false) : Same H H2 ∧ W2 = W ∧ ρ2 = ρ := by
  rw [Bool.or_eq_false_iff] at h
  obtain ⟨a1, a2, a3⟩ := p.calm h.1
  obtain ⟨b1, b2, b3⟩ := q.calm h.2
  exact ⟨a1.trans b1, b2.trans a2, b3.trans a3⟩
theorem Post.fin {m : Bool} {d : D} {v : V} {F : List Addr} (s : SR K T z R H1 W1 σ ρ1) (f : FrW H W H1 W1) (c : m = false → Same H H1 ∧ W1 = W ∧ ρ1 = ρ) (k : Same H1 H2) (r : Rep K H2 d v F) (nd : F.Nodup) (nw : ∀ a ∈ F, H1 a = none) :
    Post K T z R m true H W σ ρ H2 W1 ρ1 d v F where
  sr := s.same k
  fr := f.trans (FrW.same W1 k)
  calm := fun h => ⟨(c h).1.trans k, (c h).2⟩
  rep := r
  own := fun _ => ⟨nd, fun a m => ⟨f.dom a (nw a m), s.nw (nw a m)⟩⟩
theorem Post.flat {m : Bool} {d : D} {v : V} (s : SR K T z R H1 W1 σ ρ1) (f : FrW H W H1 W1) (c : m = false → Same H H1 ∧ W1 = W ∧ ρ1 = ρ) (r : Rep K H1 d v []) : Post K T z R m true H W σ ρ H1 W1 ρ1 d v [] where
  sr := s
  fr := f
  calm := c
  rep := r
  own := fun _ => ⟨List.nodup_nil, fun a m => nomatch m⟩
end
section
variable {X : Cx} {T : Tg} {m o m1 m2 o1 o2 : Bool} {e a b : Expr} {w wa wb : WE} {pos : Pos}
theorem EV.lift (h : EV X T m o e w) : EV X T m true e (fun ρ Q => w ρ fun d ρ' => d.pure = true ∧ Q d ρ') := by
  obtain ⟨te, p, g⟩ := h
  refine ⟨te, p, fun z R σ H W ρ Q Q' s hw k => g z R σ H W ρ _ Q' s hw fun v H' W' d ρ' F q ⟨hp, hq⟩ => ?_⟩
  obtain ⟨e, r⟩ := q.rep.pure hp
  exact k v H' W' d ρ' [] ⟨q.sr, q.fr, q.calm, r, fun _ => ⟨List.nodup_nil, fun a m => nomatch m⟩⟩ hq
theorem EV.ro (h : EV X T m o e w) : EV X T m false e w := by
  obtain ⟨te, p, g⟩ := h
  exact ⟨te, p, fun z R σ H W ρ Q Q' s hw k => g z R σ H W ρ _ Q' s hw fun v H' W' d ρ' F q hq => k v H' W' d ρ' F ⟨q.sr, q.fr, q.calm, q.rep, fun h => nomatch h⟩ hq⟩
theorem EV.mut (h : EV X T m o e w) : EV X T true o e w := by
  obtain ⟨te, p, g⟩ := h
  exact ⟨te, p, fun z R σ H W ρ Q Q' s hw k => g z R σ H W ρ _ Q' s hw fun v H' W' d ρ' F q hq => k v H' W' d ρ' F ⟨q.sr, q.fr, (fun h => nomatch h), q.rep, q.own⟩ hq⟩
def wVar (i : Nat) : WE := fun ρ Q => match look ρ i with
  | some d => Q d ρ
  | none => False
def wC (d : D) : WE := fun ρ Q => Q d ρ
theorem ev_pv (i : Nat) (h : PE X e (tVar i)) : EV X T false false e (wVar i) := by
  refine ⟨_, h, fun z R σ H W ρ Q Q' s hw k => ?_⟩
  unfold wVar at hw
  cases hl : look ρ i with
  | none => rw [hl] at hw; exact hw.elim
  | some d =>
    rw [hl] at hw
    obtain ⟨fp, r⟩ := s
    obtain ⟨v, h1, h2⟩ := r.at_ i d hl
    exact ⟨v, h1, k v H W d ρ (fp i) ⟨⟨fp, r⟩, FrW.refl H W, fun _ => ⟨Same.refl H, rfl, rfl⟩, h2, fun h => nomatch h⟩ hw⟩
theorem ev_var (i : Nat) {x : Str} (hN : X.N[i]? = some x := by rfl) (hv : Vis X.env.scope x := by first | exact Or.inl rfl | exact Or.inr (Or.inl rfl) | exact Or.inr (Or.inr rfl)) (hd : (x == ("__debug__" : Str)) = false := by decide)
    (hcd : (x == ("__classdict__" : Str)) = false := by decide) : EV X T false false (.Name x pos) (wVar i) := ev_pv i (pe_var hN hv hd hcd)
theorem ev_const {d : D} {v : V} (h : PE X e (tC v)) (r : ∀ H, Rep X.K H d v []) : EV X T false true e (wC d) :=
  ⟨_, h, fun z R σ H W ρ Q Q' s hw k => k v H W d ρ [] (Post.flat s (FrW.refl H W) (fun _ => ⟨Same.refl H, rfl, rfl⟩) (r H)) hw⟩
theorem ev_int {i : Int} {j pos} : EV X T false true (.Constant (.int i) j pos) (wC (.int i)) := ev_const pe_int fun _ => .int i
theorem ev_bl {i : Bool} {j pos} : EV X T false true (.Constant (.bool i) j pos) (wC (.bl i)) := ev_const pe_bl fun _ => .bl i
abbrev G2 := D → D → (D → Prop) → Prop
structure Fin (K : PySem.W.Frag) (H H' : Hp) (d : D) (v : V) (F : List Addr) : Prop where
  same : Same H H'
  rep : Rep K H' d v F
  nd : F.Nodup
  new : ∀ a ∈ F, H a = none
theorem Fin.flat {K : PySem.W.Frag} {H : Hp} {d : D} {v : V} (r : Rep K H d v []) : Fin K H H d v [] := ⟨Same.refl H, r, List.nodup_nil, fun _ m => nomatch m⟩
theorem same_upd {H : Hp} {p : Addr} {ob : HO} (h : H p = none) : Same H (upd H p ob) := fun b u e => by rw [upd_ne (ne_of_none e h)]; exact e
def OpD (X : Cx) (f : Value → Value → Sem Value) (g : G2) : Prop :=
  ∃ r, OpR X f r ∧ ∀ (H : Hp) (a b : D) (x y : V) (F1 F2 : List Addr) (k : D → Prop) (Q : VK), Rep X.K H a x F1 → Rep X.K H b y F2 → g a b k →
    (∀ v H' d F, Fin X.K H H' d v F → k d → Q v H') → r x y H Q
def wBin (g : G2) (wa wb : WE) : WE := fun ρ Q => wa ρ fun x ρ1 => wb ρ1 fun y ρ2 => g x y fun d => Q d ρ2
theorem two {ta tb : TE} {z : Nat → V} {R : Addr → Prop} {σ : St} {H : Hp} {W : Addr → Prop} {ρ : Env} {RR : V → V → Hp → Prop} {Q2 : D → D → Env → Prop}
    (ga : ∀ (z : Nat → V) (R : Addr → Prop) (σ : St) (H : Hp) (W : Addr → Prop) (ρ : Env) (Q : D → Env → Prop) (Q' : VK), SR X.K T z R H W σ ρ → wa ρ Q → (∀ v H' W' d ρ' F, Post X.K T z R m1 o1 H W σ ρ H' W' ρ' d v F → Q d ρ' → Q' v H') → ta σ H Q')
    (gb : ∀ (z : Nat → V) (R : Addr → Prop) (σ : St) (H : Hp) (W : Addr → Prop) (ρ : Env) (Q : D → Env → Prop) (Q' : VK), SR X.K T z R H W σ ρ → wb ρ Q → (∀ v H' W' d ρ' F, Post X.K T z R m2 o2 H W σ ρ H' W' ρ' d v F → Q d ρ' → Q' v H') → tb σ H Q')
    (hc : o1 = true ∨ m2 = false) (s : SR X.K T z R H W σ ρ) (hw : wa ρ fun x ρ1 => wb ρ1 fun y ρ2 => Q2 x y ρ2)
    (k : ∀ x y H2 W2 d1 d2 ρ2 F1 F2, SR X.K T z R H2 W2 σ ρ2 → FrW H W H2 W2 → ((m1 || m2) = false → Same H H2 ∧ W2 = W ∧ ρ2 = ρ) → Rep X.K H2 d1 x F1 → Rep X.K H2 d2 y F2 →
      (o1 = true → F1.Nodup ∧ ∀ a ∈ F1, H a = none ∧ ¬ W2 a) → (o2 = true → F2.Nodup ∧ ∀ a ∈ F2, H a = none ∧ ¬ W2 a) → (o2 = true → ∀ a ∈ F1, a ∉ F2) → Q2 d1 d2 ρ2 → RR x y H2) :
    ta σ H fun x H1 => tb σ H1 fun y H2 => RR x y H2 := by
  refine ga z R σ H W ρ _ _ s hw fun v1 H1 W1 d1 ρ1 F1 p q1 => ?_
  refine gb z R σ H1 W1 ρ1 _ _ p.sr q1 fun v2 H2 W2 d2 ρ2 F2 q q2 => ?_
  refine k v1 v2 H2 W2 d1 d2 ρ2 F1 F2 q.sr (p.fr.trans q.fr) (p.calm2 q) (p.first q hc) q.rep (p.firstOwn q) (p.lastOwn q) (fun h a m1 m2 => ?_) q2
  obtain ⟨ob, e, _⟩ := p.rep.dom a m1
  rw [((q.own h).2 a m2).1] at e
  cases e
theorem ev_op {op : Operator} {g : G2} (ho : OpD X (binaryOp op) g) (ha : EV X T m1 o1 a wa) (hb : EV X T m2 o2 b wb) (hc : o1 = true ∨ m2 = false := by first | exact .inl rfl | exact .inr rfl) :
    EV X T (m1 || m2) true (.BinOp a op b pos) (wBin g wa wb) := by
  obtain ⟨r, ro, gr⟩ := ho
  obtain ⟨ta, pa, ga⟩ := ha
  obtain ⟨tb, pb, gb⟩ := hb
  refine ⟨_, pe_op ro pa pb, fun z R σ H W ρ Q Q' s hw k => ?_⟩
  refine two ga gb hc s hw fun x y H2 W2 d1 d2 ρ2 F1 F2 s2 f2 c2 r1 r2 _ _ _ q2 => ?_
  exact gr H2 d1 d2 x y F1 F2 _ Q' r1 r2 q2 fun v H' d F fi hk => k v H' W2 d ρ2 F (Post.fin s2 f2 c2 fi.same fi.rep fi.nd fi.new) hk
def UnD (X : Cx) (f : Value → Sem Value) (g : D → (D → Prop) → Prop) : Prop :=
  ∃ r, UnR X f r ∧ ∀ (H : Hp) (a : D) (x : V) (F1 : List Addr) (k : D → Prop) (Q : VK), Rep X.K H a x F1 → g a k → (∀ v H' d F, Fin X.K H H' d v F → k d → Q v H') → r x H Q
def wUn (g : D → (D → Prop) → Prop) (wa : WE) : WE := fun ρ Q => wa ρ fun x ρ1 => g x fun d => Q d ρ1
theorem ev_un {op : UnaryOp} {g : D → (D → Prop) → Prop} (ho : UnD X (unaryOp op) g) (ha : EV X T m o a wa) : EV X T m true (.UnaryOp op a pos) (wUn g wa) := by
  obtain ⟨r, ro, gr⟩ := ho
  obtain ⟨ta, pa, ga⟩ := ha
  refine ⟨_, pe_un ro pa, fun z R σ H W ρ Q Q' s hw k => ?_⟩
  refine ga z R σ H W ρ _ _ s hw fun v1 H1 W1 d1 ρ1 F1 p q1 => ?_
  exact gr H1 d1 v1 F1 _ Q' p.rep q1 fun v H' d F fi hk => k v H' W1 d ρ1 F (Post.fin p.sr p.fr p.calm fi.same fi.rep fi.nd fi.new) hk
abbrev WT := Env → (Bool → Env → Prop) → Prop
structure PostT (K : PySem.W.Frag) (T : Tg) (z : Nat → V) (R : Addr → Prop) (m : Bool) (H : Hp) (W : Addr → Prop) (σ : St) (ρ : Env) (H' : Hp) (W' : Addr → Prop) (ρ' : Env) : Prop where
  sr : SR K T z R H' W' σ ρ'
  fr : FrW H W H' W'
  calm : m = false → Same H H' ∧ W' = W ∧ ρ' = ρ
def TV (X : Cx) (T : Tg) (m : Bool) (e : Expr) (w : WT) : Prop :=
  ∃ tt, PT X e tt ∧ ∀ (z : Nat → V) (R : Addr → Prop) (σ : St) (H : Hp) (W : Addr → Prop) (ρ : Env) (Q : Bool → Env → Prop) (Q' : Bool → Hp → Prop), SR X.K T z R H W σ ρ → w ρ Q →
    (∀ b H' W' ρ', PostT X.K T z R m H W σ ρ H' W' ρ' → Q b ρ' → Q' b H') → tt σ H Q'
def truD : D → Option Bool
  | .non => some false
  | .bl b => some b
  | .int i => some (i != 0)
  | .str y => if y.length ≤ sizeLine then some ((y.length : Int) != 0) else none
  | .lst xs => some (!xs.isEmpty)
  | .tup xs => some (!xs.isEmpty)
  | .dik kvs => some (!kvs.isEmpty)
  | .kls xs => some (!xs.isEmpty)
  | .dit _ => none
  | .ty _ => none
  | .fdk _ => none
  | .ftp _ => none
  | .fls _ => none
def wTru (wa : WE) : WT := fun ρ Q => wa ρ fun d ρ' => match truD d with
  | some b => Q b ρ'
  | none => False
theorem Reps.emp {K : PySem.W.Frag} {H : Hp} {ds : List D} {xs : List V} {F : List Addr} (r : Reps K H ds xs F) : ds.isEmpty = xs.isEmpty := by
  have := r.length
  cases ds <;> cases xs <;> simp at this <;> rfl
theorem RepK.emp {K : PySem.W.Frag} {H : Hp} {ds : List (Key × D)} {xs : List (Key × V)} {F : List Addr} (r : RepK K H ds xs F) : ds.isEmpty = xs.isEmpty := by
  have := r.length
  cases ds <;> cases xs <;> simp at this <;> rfl
theorem truV_of {K : PySem.W.Frag} {H : Hp} {d : D} {x : V} {F : List Addr} {b : Bool} (r : Rep K H d x F) (h : truD d = some b) : TruV K x H b := by
  cases r with
  | non => exact (Option.some.inj h).symm
  | bl c => exact (Option.some.inj h).symm
  | int c => exact (Option.some.inj h).symm
  | str y =>
    have h : (if y.length ≤ sizeLine then some ((y.length : Int) != 0) else none) = some b := h
    split at h
    · rename_i hl; exact ⟨hl, (Option.some.inj h).symm⟩
    · cases h
  | tup e r =>
    refine .inr (.inl ⟨_, .of e, ?_⟩)
    rw [← Option.some.inj h, r.emp]
  | lst e r =>
    refine .inl ⟨_, .of e, ?_⟩
    rw [← Option.some.inj h, r.emp]
  | kls e r =>
    refine .inl ⟨_, e.sq, ?_⟩
    rw [← Option.some.inj h, r.emp]
  | dik e r =>
    refine .inr (.inr ⟨_, e, ?_⟩)
    rw [← Option.some.inj h, r.emp]
  | dit e r => cases h
  | ty t => cases h
  | fdk e r => cases h
  | ftp e hd r => cases h
  | fls e r => cases h
theorem tv_tru (ha : EV X T m o a wa) (he : ∀ whole, isTrue a X.env whole = (do let v ← whole; standAt a.pos; holding [v] (truthy v)) := by intro _; rfl) : TV X T m a (wTru wa) := by
  obtain ⟨ta, pa, ga⟩ := ha
  refine ⟨_, pt_truth pa he, fun z R σ H W ρ Q Q' s hw k => ?_⟩
  refine ga z R σ H W ρ _ _ s hw fun v1 H1 W1 d1 ρ1 F1 p q1 => ?_
  cases ht : truD d1 with
  | none => rw [ht] at q1; exact q1.elim
  | some b =>
    rw [ht] at q1
    exact ⟨b, truV_of p.rep ht, k b H1 W1 ρ1 ⟨p.sr, p.fr, p.calm⟩ q1⟩
def wBl (wa : WE) : WT := fun ρ Q => wa ρ fun d ρ' => match d with
  | .bl b => Q b ρ'
  | _ => False
theorem rep_bl {K : PySem.W.Frag} {H : Hp} {b : Bool} {x : V} {F : List Addr} (r : Rep K H (.bl b) x F) : x = .bl b := by cases r; rfl
theorem tv_cmp {op : CmpOp} {g : G2} (ho : OpD X (compareOp op) g) (ha : EV X T m1 o1 a wa) (hb : EV X T m2 o2 b wb) (hc : o1 = true ∨ m2 = false := by first | exact .inl rfl | exact .inr rfl)
    (hm : behindInMarks op b = false := by first | exact nomark _ | with_unfolding_all rfl) : TV X T (m1 || m2) (.Compare a [op] [b] pos) (wBl (wBin g wa wb)) := by
  obtain ⟨r, ro, gr⟩ := ho
  obtain ⟨ta, pa, ga⟩ := ha
  obtain ⟨tb, pb, gb⟩ := hb
  refine ⟨_, pt_cmpR ro pa pb hm, fun z R σ H W ρ Q Q' s hw k => ?_⟩
  refine two ga gb hc s hw fun x y H2 W2 d1 d2 ρ2 F1 F2 s2 f2 c2 r1 r2 _ _ _ q2 => ?_
  refine gr H2 d1 d2 x y F1 F2 _ _ r1 r2 q2 fun v H' d F fi hk => ?_
  cases d with
  | bl b => exact ⟨b, rep_bl fi.rep, k b H' W2 ρ2 ⟨s2.same fi.same, f2.trans (FrW.same W2 fi.same), fun h => ⟨(c2 h).1.trans fi.same, (c2 h).2⟩⟩ hk⟩
  | _ => exact hk.elim
variable {wt wu : WT} {rest : List Expr}
def wNot (wt : WT) : WT := fun ρ Q => wt ρ fun b ρ' => Q (!b) ρ'
def wAnd (wt wu : WT) : WT := fun ρ Q => wt ρ fun b ρ' => if b = true then wu ρ' Q else Q false ρ'
def wOr (wt wu : WT) : WT := fun ρ Q => wt ρ fun b ρ' => if b = true then Q true ρ' else wu ρ' Q
theorem tv_not (ha : TV X T m a wt) : TV X T m (.UnaryOp .Not a pos) (wNot wt) := by
  obtain ⟨ta, pa, ga⟩ := ha
  exact ⟨_, pt_not pa, fun z R σ H W ρ Q Q' s hw k => ga z R σ H W ρ _ _ s hw fun b H1 W1 ρ1 p q1 => k (!b) H1 W1 ρ1 p q1⟩
def BV (X : Cx) (T : Tg) (m : Bool) (e : Expr) (w : WT) : Prop :=
  ∃ tt, PW X e tt ∧ ∀ (z : Nat → V) (R : Addr → Prop) (σ : St) (H : Hp) (W : Addr → Prop) (ρ : Env) (Q : Bool → Env → Prop) (Q' : Bool → Hp → Prop), SR X.K T z R H W σ ρ → w ρ Q →
    (∀ b H' W' ρ', PostT X.K T z R m H W σ ρ H' W' ρ' → Q b ρ' → Q' b H') → tt σ H Q'
theorem PostT.seq {K : PySem.W.Frag} {z : Nat → V} {R : Addr → Prop} {H H1 H2 : Hp} {W W1 W2 : Addr → Prop} {σ : St} {ρ ρ1 ρ2 : Env} (p : PostT K T z R m1 H W σ ρ H1 W1 ρ1) (q : PostT K T z R m2 H1 W1 σ ρ1 H2 W2 ρ2) : PostT K T z R (m1 || m2) H W σ ρ H2 W2 ρ2 where
  sr := q.sr
  fr := p.fr.trans q.fr
  calm := fun h => by
    rw [Bool.or_eq_false_iff] at h
    obtain ⟨a1, a2, a3⟩ := p.calm h.1
    obtain ⟨b1, b2, b3⟩ := q.calm h.2
    exact ⟨a1.trans b1, b2.trans a2, b3.trans a3⟩
theorem PostT.left {K : PySem.W.Frag} {z : Nat → V} {R : Addr → Prop} {H H1 : Hp} {W W1 : Addr → Prop} {σ : St} {ρ ρ1 : Env} (p : PostT K T z R m1 H W σ ρ H1 W1 ρ1) : PostT K T z R (m1 || m2) H W σ ρ H1 W1 ρ1 :=
  ⟨p.sr, p.fr, fun h => p.calm (Bool.or_eq_false_iff.mp h).1⟩
theorem bv_or1 (ha : TV X T m a wt) : BV X T m (.BoolOp .Or [a] pos) wt := by
  obtain ⟨ta, pa, ga⟩ := ha
  exact ⟨_, pw_or1 pa, ga⟩
theorem bv_or (ha : TV X T m1 a wt) (hb : BV X T m2 (.BoolOp .Or (b :: rest) pos) wu) : BV X T (m1 || m2) (.BoolOp .Or (a :: b :: rest) pos) (wOr wt wu) := by
  obtain ⟨ta, pa, ga⟩ := ha
  obtain ⟨tb, pb, gb⟩ := hb
  refine ⟨_, pw_or pa pb, fun z R σ H W ρ Q Q' s hw k => ga z R σ H W ρ _ _ s hw fun c H1 W1 ρ1 p q1 => ?_⟩
  cases c with
  | false => exact gb z R σ H1 W1 ρ1 Q Q' p.sr q1 fun b H2 W2 ρ2 q q2 => k b H2 W2 ρ2 (p.seq q) q2
  | true => exact k true H1 W1 ρ1 p.left q1
theorem tv_bool (h : BV X T m e wt) : TV X T m e wt := by
  obtain ⟨ta, pa, ga⟩ := h
  exact ⟨_, pa.pt, ga⟩
def wIfE (wt : WT) (wa wb : WE) : WE := fun ρ Q => wt ρ fun c ρ1 => if c = true then wa ρ1 Q else wb ρ1 Q
end
end PV
set_option Elab.async false
set_option linter.all false
set_option maxRecDepth 100000
set_option maxHeartbeats 4000000
namespace PV
open PySem PySem.Spec L2
open PySem.W (Dat kqdP kqdPs kqdOk)
mutual
def toDat : D → Dat
  | .non => .none
  | .bl b => .bool b
  | .int i => .int i
  | .str x => .str x
  | .tup xs => .tuple (toDats xs)
  | .lst xs => .list (toDats xs)
  | .dik _ => .none
  | .dit _ => .none
  | .kls _ => .none
  | .ty _ => .none
  | .fdk _ => .none
  | .ftp _ => .none
  | .fls _ => .none
def toDats : List D → List Dat
  | [] => []
  | d :: r => toDat d :: toDats r
end
mutual
def eqOk : Nat → D → Bool
  | _, .non => true
  | _, .int _ => true
  | _, .str x => PyData.strOk x
  | n + 1, .tup xs => eqOks n xs
  | n + 1, .lst xs => eqOks n xs
  | _, _ => false
def eqOks : Nat → List D → Bool
  | _, [] => true
  | n, d :: r => eqOk n d && eqOks n r
end
theorem eqOks_iff {n : Nat} {xs : List D} : eqOks n xs = true ↔ ∀ x ∈ xs, eqOk n x = true := by
  induction xs with
  | nil => simp [eqOks]
  | cons d r ih => simp only [eqOks, Bool.and_eq_true, ih, List.mem_cons, forall_eq_or_imp]
mutual
theorem eqOk_kqd : ∀ (n : Nat) (d : D), eqOk n d = true → kqdOk n (toDat d) = true
  | _, .non, _ => by simp [toDat, kqdOk]
  | _, .bl _, h => by cases ‹Nat› <;> simp [eqOk] at h
  | _, .int _, _ => by simp [toDat, kqdOk]
  | _, .str x, h => by
    cases ‹Nat› <;> (simp only [eqOk] at h; simpa [toDat, kqdOk] using h)
  | 0, .tup _, h => by simp [eqOk] at h
  | 0, .lst _, h => by simp [eqOk] at h
  | n + 1, .tup xs, h => by
    simp only [eqOk] at h
    rw [toDat]; simp only [kqdOk]
    exact eqOks_kqd n xs h
  | n + 1, .lst xs, h => by
    simp only [eqOk] at h
    rw [toDat]; simp only [kqdOk]
    exact eqOks_kqd n xs h
  | n, .dik _, h => by cases n <;> simp [eqOk] at h
  | n, .dit _, h => by cases n <;> simp [eqOk] at h
  | n, .kls _, h => by cases n <;> simp [eqOk] at h
  | n, .ty _, h => by cases n <;> simp [eqOk] at h
  | n, .fdk _, h => by cases n <;> simp [eqOk] at h
  | n, .ftp _, h => by cases n <;> simp [eqOk] at h
  | n, .fls _, h => by cases n <;> simp [eqOk] at h
theorem eqOks_kqd : ∀ (n : Nat) (xs : List D), eqOks n xs = true → (toDats xs).all (kqdOk n) = true
  | _, [], _ => by simp [toDats]
  | n, d :: r, h => by
    simp only [eqOks, Bool.and_eq_true] at h
    rw [toDats, List.all_cons, eqOk_kqd n d h.1, eqOks_kqd n r h.2]; rfl
end
mutual
theorem toDat_inj : ∀ (n k : Nat) (a b : D), eqOk n a = true → eqOk k b = true → toDat a = toDat b → a = b
  | n, k, a, b, ha, hb, h => by
    cases a with
    | non => cases b <;> first | rfl | (simp [toDat] at h; done) | (cases k <;> simp [eqOk] at hb)
    | bl x => cases n <;> simp [eqOk] at ha
    | int x => cases b <;> first | (simp [toDat] at h; rw [h]) | (simp [toDat] at h)
    | str x => cases b <;> first | (simp [toDat] at h; rw [h]) | (simp [toDat] at h)
    | tup xs =>
      cases b with
      | tup ys =>
        cases n with
        | zero => simp [eqOk] at ha
        | succ n =>
          cases k with
          | zero => simp [eqOk] at hb
          | succ k =>
            simp only [eqOk] at ha hb
            simp only [toDat, Dat.tuple.injEq] at h
            rw [toDats_inj n k xs ys ha hb h]
      | _ => simp [toDat] at h
    | lst xs =>
      cases b with
      | lst ys =>
        cases n with
        | zero => simp [eqOk] at ha
        | succ n =>
          cases k with
          | zero => simp [eqOk] at hb
          | succ k =>
            simp only [eqOk] at ha hb
            simp only [toDat, Dat.list.injEq] at h
            rw [toDats_inj n k xs ys ha hb h]
      | _ => simp [toDat] at h
    | dik x => cases n <;> simp [eqOk] at ha
    | dit x => cases n <;> simp [eqOk] at ha
    | kls x => cases n <;> simp [eqOk] at ha
    | ty x => cases n <;> simp [eqOk] at ha
    | fdk x => cases n <;> simp [eqOk] at ha
    | ftp x => cases n <;> simp [eqOk] at ha
    | fls x => cases n <;> simp [eqOk] at ha
theorem toDats_inj : ∀ (n k : Nat) (a b : List D), eqOks n a = true → eqOks k b = true → toDats a = toDats b → a = b
  | n, k, [], b, ha, hb, h => by
    cases b with
    | nil => rfl
    | cons => simp [toDats] at h
  | n, k, x :: a, b, ha, hb, h => by
    cases b with
    | nil => simp [toDats] at h
    | cons y b =>
      simp only [toDats, List.cons.injEq] at h
      simp only [eqOks, Bool.and_eq_true] at ha hb
      rw [toDat_inj n k x y ha.1 hb.1 h.1, toDats_inj n k a b ha.2 hb.2 h.2]
end
mutual
theorem Rep.dv {K : PySem.W.Frag} {H : Hp} : ∀ {d : D} {v : V} {F : List Addr} (n : Nat), Rep K H d v F → eqOk n d = true → DV H v (toDat d)
  | _, _, _, _, .non, _ => by rw [toDat]; exact .non
  | _, _, _, n, .bl b, h => by cases n <;> simp [eqOk] at h
  | _, _, _, _, .int i, _ => by rw [toDat]; exact .int i
  | _, _, _, _, .str i, _ => by rw [toDat]; exact .str i
  | _, _, _, 0, .tup e r, h => by simp [eqOk] at h
  | _, _, _, 0, .lst e r, h => by simp [eqOk] at h
  | _, _, _, n + 1, .tup e r, h => by simp only [eqOk] at h; rw [toDat]; exact .tup e (Reps.dv n r h)
  | _, _, _, n + 1, .lst e r, h => by simp only [eqOk] at h; rw [toDat]; exact .lst e (Reps.dv n r h)
  | _, _, _, n, .dik e r, h => by cases n <;> simp [eqOk] at h
  | _, _, _, n, .dit e r, h => by cases n <;> simp [eqOk] at h
  | _, _, _, n, .kls e r, h => by cases n <;> simp [eqOk] at h
  | _, _, _, n, .ty t, h => by cases n <;> simp [eqOk] at h
  | _, _, _, n, .fdk e r, h => by cases n <;> simp [eqOk] at h
  | _, _, _, n, .ftp e hd r, h => by cases n <;> simp [eqOk] at h
  | _, _, _, n, .fls e r, h => by cases n <;> simp [eqOk] at h
theorem Reps.dv {K : PySem.W.Frag} {H : Hp} : ∀ {d : List D} {v : List V} {F : List Addr} (n : Nat), Reps K H d v F → eqOks n d = true → DVs H v (toDats d)
  | _, _, _, _, .nil, _ => by rw [toDats]; exact .nil
  | _, _, _, n, .cons h r, q => by
    simp only [eqOks, Bool.and_eq_true] at q
    rw [toDats]; exact .cons (Rep.dv n h q.1) (Reps.dv n r q.2)
end
def dAdd : G2
  | .int i, .int j, k => k (.int (i + j))
  | .str x, .str y, k => x.length + y.length ≤ sizeLine ∧ k (.str (x ++ y))
  | .tup xs, .tup ys, k => pureL xs = true ∧ pureL ys = true ∧ xs ≠ [] ∧ xs.length + ys.length ≤ sizeLine ∧ k (.tup (xs ++ ys))
  | .lst xs, .lst ys, k => pureL xs = true ∧ pureL ys = true ∧ xs.length + ys.length ≤ sizeLine ∧ k (.lst (xs ++ ys))
  | _, _, _ => False
def dSub : G2
  | .int i, .int j, k => k (.int (i - j))
  | _, _, _ => False
def dMul : G2
  | .int i, .int j, k => CMul i j ∧ k (.int (i * j))
  | .lst xs, .int n, k => pureL xs = true ∧ -(2 ^ 63) ≤ n ∧ n < 2 ^ 63 ∧ xs.length * n.toNat ≤ sizeLine ∧ k (.lst (List.replicate n.toNat xs).flatten)
  | _, _, _ => False
def dDiv : G2
  | .int i, .int j, k => (0 < j ∧ j < 1073741824 ∧ k (.int (i / j))) ∨ (j < 0 ∧ j.natAbs < 1073741824 ∧ k (.int (i.fdiv j)))
  | _, _, _ => False
def dMod : G2
  | .int i, .int j, k => (0 < j ∧ k (.int (i % j))) ∨ (j < 0 ∧ k (.int (i.fmod j)))
  | _, _, _ => False
def dPow : G2
  | .int i, .int j, k => CPow i j ∧ k (.int (i ^ j.toNat))
  | _, _, _ => False
def dEq : G2
  | .int i, .int j, k => k (.bl (decide (i = j)))
  | .bl i, .bl j, k => k (.bl (i == j))
  | .str i, .str j, k => k (.bl (decide (i = j)))
  | a, b, k => eqOk 9 a = true ∧ eqOk 9 b = true ∧ (a = b → k (.bl true)) ∧ (a ≠ b → k (.bl false))
def dNe : G2
  | .int i, .int j, k => k (.bl (!decide (i = j)))
  | .bl i, .bl j, k => k (.bl (!(i == j)))
  | .str i, .str j, k => k (.bl (!decide (i = j)))
  | a, b, k => eqOk 9 a = true ∧ eqOk 9 b = true ∧ (a = b → k (.bl false)) ∧ (a ≠ b → k (.bl true))
def dCmp (f : Int → Int → Bool) : G2
  | .int i, .int j, k => k (.bl (f i j))
  | _, _, _ => False
section
variable {X : Cx}
theorem rep_int {K : PySem.W.Frag} {H : Hp} {i : Int} {x : V} {F : List Addr} (r : Rep K H (.int i) x F) : x = .int i := by cases r; rfl
theorem Reps.flatten {K : PySem.W.Frag} {H : Hp} {ds : List D} {xs : List V} (r : Reps K H ds xs []) : ∀ n : Nat, Reps K H (List.replicate n ds).flatten (List.replicate n xs).flatten []
  | 0 => .nil
  | n + 1 => by
    have := r.append (Reps.flatten r n)
    simpa [List.replicate_succ, List.flatten_cons] using this
theorem od_add : OpD X (binaryOp .Add) dAdd := by
  refine ⟨_, OpR.or op_add (OpR.or op_cat (OpR.or op_catT op_add_str)), fun H a b x y F1 F2 k Q ra rb g q => ?_⟩
  (cases ra <;> first | exact (show False from g).elim | skip) <;> (cases rb <;> first | exact (show False from g).elim | skip)
  · exact .inl ⟨_, _, rfl, rfl, q _ _ _ _ (.flat (.int _)) g⟩
  · exact .inr (.inr (.inr ⟨_, _, rfl, rfl, g.1, q _ _ _ _ (.flat (.str _)) g.2⟩))
  · rename_i a xs ds e1 r1 b ys es e2 r2
    obtain ⟨p1, p2, hne, hz, g⟩ := g
    obtain ⟨-, r1⟩ := r1.pure p1
    obtain ⟨-, r2⟩ := r2.pure p2
    have l1 := r1.length
    have l2 := r2.length
    refine .inr (.inr (.inl ⟨a, b, xs, ys, rfl, rfl, .of e1, .of e2, fun z => hne (List.length_eq_zero_iff.mp (by rw [← l1, z]; rfl)), by omega, fun z => ?_, fun z p hp => ?_⟩))
    · have : es = [] := List.length_eq_zero_iff.mp (by rw [← l2, z]; rfl)
      subst this
      rw [List.append_nil] at g
      exact q _ _ _ _ (.flat (.tup e1 r1)) g
    · refine q _ _ _ [] ⟨same_upd hp, .tup upd_same ?_, List.nodup_nil, fun _ m => nomatch m⟩ g
      exact (r1.append r2).same (same_upd hp)
  · rename_i a xs ds F1 e1 r1 b ys es F2 e2 r2
    obtain ⟨p1, p2, hz, g⟩ := g
    obtain ⟨-, r1⟩ := r1.pure p1
    obtain ⟨-, r2⟩ := r2.pure p2
    have l1 := r1.length
    have l2 := r2.length
    refine .inr (.inl ⟨a, b, xs, ys, rfl, rfl, e1, e2, by omega, fun p hp => ?_⟩)
    refine q _ _ _ [p] ⟨same_upd hp, .lst upd_same ((r1.append r2).same (same_upd hp)), by simp, fun c m => by rw [List.mem_singleton.mp m]; exact hp⟩ g
theorem od_sub : OpD X (binaryOp .Sub) dSub := by
  refine ⟨_, op_sub, fun H a b x y F1 F2 k Q ra rb g q => ?_⟩
  (cases ra <;> first | exact (show False from g).elim | skip) <;> (cases rb <;> first | exact (show False from g).elim | skip)
  exact ⟨_, _, rfl, rfl, q _ _ _ _ (.flat (.int _)) g⟩
theorem od_mul : OpD X (binaryOp .Mult) dMul := by
  refine ⟨_, OpR.or op_mul op_rep, fun H a b x y F1 F2 k Q ra rb g q => ?_⟩
  (cases ra <;> first | exact (show False from g).elim | skip) <;> (cases rb <;> first | exact (show False from g).elim | skip)
  · exact .inl ⟨_, _, rfl, rfl, g.1, q _ _ _ _ (.flat (.int _)) g.2⟩
  · rename_i a xs ds F1 e1 r1 n
    obtain ⟨p1, h1, h2, hz, g⟩ := g
    obtain ⟨-, r1⟩ := r1.pure p1
    have l1 := r1.length
    refine .inr ⟨a, n, xs, rfl, rfl, e1, h1, h2, by rw [l1]; exact hz, fun p hp => ?_⟩
    refine q _ _ _ [p] ⟨same_upd hp, .lst upd_same ((r1.flatten _).same (same_upd hp)), by simp, fun c m => by rw [List.mem_singleton.mp m]; exact hp⟩ g
theorem od_div : OpD X (binaryOp .FloorDiv) dDiv := by
  refine ⟨_, OpR.or op_fdiv op_fdivN, fun H a b x y F1 F2 k Q ra rb g q => ?_⟩
  (cases ra <;> first | exact (show False from g).elim | skip) <;> (cases rb <;> first | exact (show False from g).elim | skip)
  rcases (show _ ∨ _ from g) with ⟨h1, h2, g⟩ | ⟨h1, h2, g⟩
  · exact .inl ⟨_, _, rfl, rfl, ⟨h1, h2⟩, q _ _ _ _ (.flat (.int _)) g⟩
  · exact .inr ⟨_, _, rfl, rfl, ⟨by omega, h2⟩, q _ _ _ _ (.flat (.int _)) g⟩
theorem od_mod : OpD X (binaryOp .Mod) dMod := by
  refine ⟨_, OpR.or op_mod op_modN, fun H a b x y F1 F2 k Q ra rb g q => ?_⟩
  (cases ra <;> first | exact (show False from g).elim | skip) <;> (cases rb <;> first | exact (show False from g).elim | skip)
  rcases (show _ ∨ _ from g) with ⟨h1, g⟩ | ⟨h1, g⟩
  · exact .inl ⟨_, _, rfl, rfl, h1, q _ _ _ _ (.flat (.int _)) g⟩
  · exact .inr ⟨_, _, rfl, rfl, by omega, q _ _ _ _ (.flat (.int _)) g⟩
theorem od_pow : OpD X (binaryOp .Pow) dPow := by
  refine ⟨_, op_pow, fun H a b x y F1 F2 k Q ra rb g q => ?_⟩
  (cases ra <;> first | exact (show False from g).elim | skip) <;> (cases rb <;> first | exact (show False from g).elim | skip)
  exact ⟨_, _, rfl, rfl, g.1, q _ _ _ _ (.flat (.int _)) g.2⟩
theorem od_cmpI {op : CmpOp} {f : Int → Int → Bool} (h : OpR X (compareOp op) (rI0 fun i j => .bl (f i j))) : OpD X (compareOp op) (dCmp f) := by
  refine ⟨_, h, fun H a b x y F1 F2 k Q ra rb g q => ?_⟩
  (cases ra <;> first | exact (show False from g).elim | skip) <;> (cases rb <;> first | exact (show False from g).elim | skip)
  exact ⟨_, _, rfl, rfl, q _ _ _ _ (.flat (.bl _)) g⟩
theorem od_lt : OpD X (compareOp .Lt) (dCmp fun i j => decide (i < j)) := od_cmpI op_lt
theorem od_gt : OpD X (compareOp .Gt) (dCmp fun i j => decide (j < i)) := od_cmpI op_gt
theorem eq_nest {H : Hp} {a b : D} {x y : V} {F1 F2 : List Addr} {k : D → Prop} {Q : VK} {neg : Bool} (ra : Rep X.K H a x F1) (rb : Rep X.K H b y F2)
    (h1 : eqOk 9 a = true) (h2 : eqOk 9 b = true) (g1 : a = b → k (.bl (!neg))) (g2 : a ≠ b → k (.bl neg)) (q : ∀ v H' d F, Fin X.K H H' d v F → k d → Q v H') : rDat neg x y H Q := by
  refine ⟨toDat a, toDat b, 9, ra.dv 9 h1, rb.dv 9 h2, eqOk_kqd _ _ h1, eqOk_kqd _ _ h2, Nat.le_refl _, fun e => ?_, fun e => ?_⟩
  · exact q _ _ _ _ (.flat (.bl _)) (g1 (toDat_inj 9 9 a b h1 h2 e))
  · exact q _ _ _ _ (.flat (.bl _)) (g2 fun z => e (by rw [z]))
theorem od_eq (hu : X.A.units + 64 < cLine) : OpD X (compareOp .Eq) dEq := by
  refine ⟨_, OpR.or op_eq (op_eqD hu), fun H a b x y F1 F2 k Q ra rb g q => ?_⟩
  have nest : eqOk 9 a = true ∧ eqOk 9 b = true ∧ (a = b → k (.bl true)) ∧ (a ≠ b → k (.bl false)) → rEq x y H Q ∨ rDat false x y H Q := fun ⟨h1, h2, g1, g2⟩ => .inr (eq_nest ra rb h1 h2 g1 g2 q)
  cases a with
  | int i =>
    cases b with
    | int j =>
      cases ra; cases rb
      refine .inl ⟨rfl, ?_⟩
      have e : decide (V.int i = V.int j) = decide (i = j) := by simp
      rw [e]
      exact q _ _ _ _ (.flat (.bl _)) g
    | _ => exact nest g
  | bl i =>
    cases b with
    | bl j =>
      cases ra; cases rb
      refine .inl ⟨rfl, ?_⟩
      rw [dec_bl]
      exact q _ _ _ _ (.flat (.bl _)) g
    | _ => exact nest g
  | str i =>
    cases b with
    | str j =>
      cases ra; cases rb
      refine .inl ⟨rfl, ?_⟩
      have e : decide (V.str i = V.str j) = decide (i = j) := by simp
      rw [e]
      exact q _ _ _ _ (.flat (.bl _)) g
    | _ => exact nest g
  | _ => cases b <;> exact nest g
theorem od_ne (hu : X.A.units + 64 < cLine) : OpD X (compareOp .NotEq) dNe := by
  refine ⟨_, OpR.or op_ne (op_neD hu), fun H a b x y F1 F2 k Q ra rb g q => ?_⟩
  have nest : eqOk 9 a = true ∧ eqOk 9 b = true ∧ (a = b → k (.bl false)) ∧ (a ≠ b → k (.bl true)) → rNe x y H Q ∨ rDat true x y H Q := fun ⟨h1, h2, g1, g2⟩ => .inr (eq_nest (neg := true) ra rb h1 h2 g1 g2 q)
  cases a with
  | int i =>
    cases b with
    | int j =>
      cases ra; cases rb
      refine .inl ⟨rfl, ?_⟩
      have e : (!decide (V.int i = V.int j)) = !decide (i = j) := by simp
      rw [e]
      exact q _ _ _ _ (.flat (.bl _)) g
    | _ => exact nest g
  | bl i =>
    cases b with
    | bl j =>
      cases ra; cases rb
      refine .inl ⟨rfl, ?_⟩
      rw [dec_bl]
      exact q _ _ _ _ (.flat (.bl _)) g
    | _ => exact nest g
  | str i =>
    cases b with
    | str j =>
      cases ra; cases rb
      refine .inl ⟨rfl, ?_⟩
      have e : (!decide (V.str i = V.str j)) = !decide (i = j) := by simp
      rw [e]
      exact q _ _ _ _ (.flat (.bl _)) g
    | _ => exact nest g
  | _ => cases b <;> exact nest g
def dNeg : D → (D → Prop) → Prop
  | .int i, k => k (.int (-i))
  | _, _ => False
theorem ud_neg : UnD X (unaryOp .USub) dNeg := by
  refine ⟨_, un_neg, fun H a x F1 k Q ra g q => ?_⟩
  cases ra <;> try exact (show False from g).elim
  exact ⟨_, rfl, q _ _ _ _ (.flat (.int _)) g⟩
end
end PV
set_option Elab.async false
set_option linter.all false
set_option maxRecDepth 100000
set_option maxHeartbeats 4000000
namespace PV
open PySem PySem.Spec L2
open PyProof.Rows (subscriptTail)
def keysOf : List D → Option (List Key)
  | [] => some []
  | .int i :: r => (keysOf r).map fun l => .inl i :: l
  | .str x :: r => (keysOf r).map fun l => .inr x :: l
  | _ :: _ => none
theorem Reps.keys {K : PySem.W.Frag} {H : Hp} : ∀ {ds : List D} {xs : List V} {F : List Addr} {l : List Key}, Reps K H ds xs F → keysOf ds = some l → xs = l.map kV
  | [], _, _, _, r, h => by
    cases r
    simp only [keysOf, Option.some.injEq] at h
    subst h
    rfl
  | d :: ds, _, _, _, r, h => by
    cases r with
    | cons p r =>
      cases d with
      | int i =>
        simp only [keysOf, Option.map_eq_some_iff] at h
        obtain ⟨l', h1, rfl⟩ := h
        cases p
        rw [Reps.keys r h1]
        rfl
      | str i =>
        simp only [keysOf, Option.map_eq_some_iff] at h
        obtain ⟨l', h1, rfl⟩ := h
        cases p
        rw [Reps.keys r h1]
        rfl
      | _ => simp [keysOf] at h
theorem Reps.atI {K : PySem.W.Frag} {H : Hp} {ds : List D} {xs : List V} {F : List Addr} {i : Int} {d : D} (r : Reps K H ds xs F) (h : L2.atI ds i = some d) : ∃ x B, L2.atI xs i = some x ∧ Rep K H d x B ∧ B.Sublist F := by
  unfold L2.atI at h
  cases hj : ixN ds.length i with
  | none => rw [hj] at h; cases h
  | some j =>
    rw [hj] at h
    obtain ⟨x, B, h1, h2, h3⟩ := r.get (i := j) h
    refine ⟨x, B, ?_, h2, h3⟩
    unfold L2.atI
    rw [r.length, hj]
    exact h1
def oget {α : Type} (o : Option α) (k : α → Prop) : Prop := match o with
  | some d => k d
  | none => False
def dIx : G2
  | .lst xs, .int i, k => oget (L2.atI xs i) k
  | .tup xs, .int i, k => oget (L2.atI xs i) k
  | .kls xs, .int i, k => oget (L2.atI xs i) k
  | .str z, .int i, k => z.length ≤ sizeLine ∧ oget (L2.atI z.cps.toList i) fun c => k (.str ⟨#[c]⟩)
  | .dik kvs, .int i, k => oget (valD kvs (.inl i)) k
  | .dik kvs, .str i, k => oget (valD kvs (.inr i)) k
  | .dit kvs, .tup l, k => oget (keysOf l) fun ks => oget (valD kvs ks) k
  | .fdk kvs, .int i, k => oget (valD kvs (.inl i)) k
  | .fdk kvs, .str i, k => oget (valD kvs (.inr i)) k
  | _, _, _ => False
theorem oget_some {α : Type} {o : Option α} {k : α → Prop} (h : oget o k) : ∃ d, o = some d ∧ k d := by
  cases o with
  | none => exact h.elim
  | some d => exact ⟨d, rfl, h⟩
section
variable {X : Cx}
theorem tail_dict {prog : Program} {w : World} {A : Around} {E : Value → Shared → Prop} {s₂ : Shared} {value slice : Expr} {o i : Value} {T id : String} {Q : Value → Shared → Prop}
    (hl : typeLookup (.type T) "__getitem__" = pure (some (.builtin id))) (hs : subscripted slice false o i = operate [o, i] (getItem o i)) (hT : s₂.TypeIs o T) (h₂ : wpAny (model prog w) A (getItem o i) Q E s₂) :
    wpAny (model prog w) A (subscriptTail value slice o i) Q E s₂ := by
  unfold subscriptTail
  refine wpAny_bind ?_
  rw [getitemInPython_of_ne hT.not_modules]
  refine wpAny_bind (wpAny_specialOf hT hl ?_)
  have fin : wpAny (model prog w) A (subscripted slice false o i) (fun r s₃ => wpAny (model prog w) A (letTemporaryGo value o r >>= fun _ => pure r) Q E s₃) E s₂ := by
    rw [hs]
    exact wpAny_operating (wpAny_mono h₂ (fun r s₃ h₃ => wpAny_bind (wpAny_letTemporaryGo (wpAny_pure h₃))) fun _ _ x => x)
  first
    | exact wpAny_pure (wpAny_bind fin)
    | exact wpAny_bind (wpAny_pure (wpAny_bind fin))
    | exact wpAny_bind fin
theorem ix_dict (hu : X.A.units + 1 < cLine) : IxR X (fun x y H Q => ∃ a v, x = .ref a ∧ DGet H a y (some v) ∧ Q v H) := by
  intro value slice pins s σ H x y v u Q I rx ry h hs
  obtain ⟨a, z, rfl, g, q⟩ := h
  cases rx
  exact tail_dict PySem.F.slot_dict_getitem.lookup hs (dict_typeIs I g) (d_getItem hu I g ry fun w' s3 I3 rw' => ⟨z, H, I3, rw', q⟩)
def IxD (X : Cx) (g : G2) : Prop :=
  ∃ r, IxR X r ∧ ∀ (H : Hp) (a b : D) (x y : V) (F1 F2 : List Addr) (k : D → Prop) (Q : VK), Rep X.K H a x F1 → Rep X.K H b y F2 → g a b k →
    (∀ v d F, Rep X.K H d v F → F.Sublist F1 → k d → Q v H) → r x y H Q
theorem xd_ix (hu : X.A.units + 1 < cLine) : IxD X dIx := by
  refine ⟨_, IxR.or ix_seq (ix_dict hu), fun H a b x y F1 F2 k Q ra rb g q => ?_⟩
  (cases ra <;> first | exact (show False from g).elim | skip) <;> (cases rb <;> first | exact (show False from g).elim | skip)
  · obtain ⟨hz, g⟩ := g
    obtain ⟨c, e, g⟩ := oget_some g
    exact .inl (.inr (.inr ⟨_, _, c, rfl, rfl, hz, e, q _ _ _ (.str _) (List.nil_sublist _) g⟩))
  · rename_i a xs ds e r i
    obtain ⟨d, h, g⟩ := oget_some g
    obtain ⟨v, B, h1, h2, h3⟩ := r.atI h
    exact .inl (.inr (.inl ⟨a, xs, i, v, rfl, rfl, .of e, h1, q _ _ _ h2 h3 g⟩))
  · rename_i a xs ds F e r i
    obtain ⟨d, h, g⟩ := oget_some g
    obtain ⟨v, B, h1, h2, h3⟩ := r.atI h
    exact .inl (.inl ⟨a, xs, i, v, rfl, rfl, .of e, h1, q _ _ _ h2 (h3.trans (List.sublist_cons_self _ _)) g⟩)
  · rename_i a kvs ds F e r i
    obtain ⟨d, h, g⟩ := oget_some g
    rcases r.val (.inl i) with ⟨z, _⟩ | ⟨d', v, B, h1, h2, h3, h4⟩
    · rw [h] at z; cases z
    · rw [h] at h1; cases h1
      exact .inr ⟨a, v, rfl, h2 ▸ DGet.k (k := .inl i) e, q _ _ _ h3 (h4.trans (List.sublist_cons_self _ _)) g⟩
  · rename_i a kvs ds F e r i
    obtain ⟨d, h, g⟩ := oget_some g
    rcases r.val (.inr i) with ⟨z, _⟩ | ⟨d', v, B, h1, h2, h3, h4⟩
    · rw [h] at z; cases z
    · rw [h] at h1; cases h1
      exact .inr ⟨a, v, rfl, h2 ▸ DGet.k (k := .inr i) e, q _ _ _ h3 (h4.trans (List.sublist_cons_self _ _)) g⟩
  · rename_i a kvs ds F e r b xs es e2 r2
    obtain ⟨ks, hk, g⟩ := oget_some g
    obtain ⟨d, h, g⟩ := oget_some g
    have hx := r2.keys hk
    subst hx
    rcases r.val ks with ⟨z, _⟩ | ⟨d', v, B, h1, h2, h3, h4⟩
    · rw [h] at z; cases z
    · rw [h] at h1; cases h1
      exact .inr ⟨a, v, rfl, h2 ▸ DGet.t (k := ks) e e2, q _ _ _ h3 (h4.trans (List.sublist_cons_self _ _)) g⟩
  · rename_i a xs ds e r i
    obtain ⟨d, h, g⟩ := oget_some g
    obtain ⟨v, B, h1, h2, h3⟩ := r.atI h
    exact .inl (.inl ⟨a, xs, i, v, rfl, rfl, e.sq, h1, q _ _ _ h2 h3 g⟩)
  · rename_i a ob kvs ds e r i
    obtain ⟨d, h, g⟩ := oget_some g
    rcases r.val (.inl i) with ⟨z, _⟩ | ⟨d', v, B, h1, h2, h3, h4⟩
    · rw [h] at z; cases z
    · rw [h] at h1; cases h1
      exact .inr ⟨a, v, rfl, .inl ⟨kvs, .inl i, .inr ⟨ob, e⟩, rfl, h2.symm⟩, q _ _ _ h3 h4 g⟩
  · rename_i a ob kvs ds e r i
    obtain ⟨d, h, g⟩ := oget_some g
    rcases r.val (.inr i) with ⟨z, _⟩ | ⟨d', v, B, h1, h2, h3, h4⟩
    · rw [h] at z; cases z
    · rw [h] at h1; cases h1
      exact .inr ⟨a, v, rfl, .inl ⟨kvs, .inr i, .inr ⟨ob, e⟩, rfl, h2.symm⟩, q _ _ _ h3 h4 g⟩
variable {T : Tg} {m o m1 m2 m3 o1 o2 : Bool} {e a b : Expr} {w wa wb : WE} {pos p2 : Pos}
theorem ev_ix {g : G2} (hg : IxD X g) (ha : EV X T m1 o1 a wa) (hb : EV X T m2 o2 b wb) (hc : o1 = true ∨ m2 = false := by first | exact .inl rfl | exact .inr rfl) (hs : PlainIx b := by intro _ _; rfl) :
    EV X T (m1 || m2) o1 (.Subscript a b pos) (wBin g wa wb) := by
  obtain ⟨r, ro, gr⟩ := hg
  obtain ⟨ta, pa, ga⟩ := ha
  obtain ⟨tb, pb, gb⟩ := hb
  refine ⟨_, pe_ix ro pa pb hs, fun z R σ H W ρ Q Q' s hw k => ?_⟩
  refine two ga gb hc s hw fun x y H2 W2 d1 d2 ρ2 F1 F2 s2 f2 c2 r1 r2 o1 _ _ q2 => ?_
  exact gr H2 d1 d2 x y F1 F2 _ Q' r1 r2 q2 fun v d F rd sub hk => k v H2 W2 d ρ2 F ⟨s2, f2, c2, rd, fun h => ⟨(o1 h).1.sublist sub, fun a m => (o1 h).2 a (sub.subset m)⟩⟩ hk
def inD : D → List D → Option Bool
  | .int i, [] => some false
  | .int i, .int j :: r => (inD (.int i) r).map fun b => (j == i) || b
  | .str i, [] => some false
  | .str i, .str j :: r => (inD (.str i) r).map fun b => (j == i) || b
  | _, _ => none
def dIn (neg : Bool) : G2
  | .int i, .dik kvs, k => k (.bl (xor neg (valD kvs (.inl i)).isSome))
  | .str i, .dik kvs, k => k (.bl (xor neg (valD kvs (.inr i)).isSome))
  | .tup l, .dit kvs, k => oget (keysOf l) fun ks => k (.bl (xor neg (valD kvs ks).isSome))
  | .int i, .lst xs, k => oget (inD (.int i) xs) fun b => k (.bl (xor neg b))
  | .int i, .tup xs, k => oget (inD (.int i) xs) fun b => k (.bl (xor neg b))
  | .str i, .lst xs, k => oget (inD (.str i) xs) fun b => k (.bl (xor neg b))
  | .str i, .tup xs, k => oget (inD (.str i) xs) fun b => k (.bl (xor neg b))
  | .str i, .str j, k => k (.bl (xor neg (!(Builtin.Str.occurrences j i 0 j.length 1).isEmpty)))
  | _, _, _ => False
abbrev WA := Env → (List D → Env → Prop) → Prop
structure PostA (K : PySem.W.Frag) (T : Tg) (z : Nat → V) (R : Addr → Prop) (m o : Bool) (H : Hp) (W : Addr → Prop) (σ : St) (ρ : Env) (H' : Hp) (W' : Addr → Prop) (ρ' : Env) (ds : List D) (vs : List V) (F : List Addr) : Prop where
  sr : SR K T z R H' W' σ ρ'
  fr : FrW H W H' W'
  calm : m = false → Same H H' ∧ W' = W ∧ ρ' = ρ
  rep : Reps K H' ds vs F
  own : o = true → F.Nodup ∧ ∀ a ∈ F, H a = none ∧ ¬ W' a
def AV (X : Cx) (T : Tg) (m o : Bool) (es : List Expr) (w : WA) : Prop :=
  ∃ ta, PA X es ta ∧ ∀ (z : Nat → V) (R : Addr → Prop) (σ : St) (H : Hp) (W : Addr → Prop) (ρ : Env) (Q : List D → Env → Prop) (Q' : List V → Hp → Prop), SR X.K T z R H W σ ρ → w ρ Q →
    (∀ vs H' W' ds ρ' F, PostA X.K T z R m o H W σ ρ H' W' ρ' ds vs F → Q ds ρ' → Q' vs H') → ta σ H Q'
variable {es : List Expr} {wr : WA}
def wNil : WA := fun ρ Q => Q [] ρ
def wCons (w : WE) (wr : WA) : WA := fun ρ Q => w ρ fun d ρ1 => wr ρ1 fun ds ρ2 => Q (d :: ds) ρ2
theorem av_nil : AV X T false true [] wNil := ⟨_, pa_nil, fun z R σ H W ρ Q Q' s hw k => k [] H W [] ρ [] ⟨s, FrW.refl H W, fun _ => ⟨Same.refl H, rfl, rfl⟩, .nil, fun _ => ⟨List.nodup_nil, fun a m => nomatch m⟩⟩ hw⟩
theorem av_cons (he : EV X T m1 o1 e w) (hr : AV X T m2 o2 es wr) (hc : o1 = true ∨ m2 = false := by first | exact .inl rfl | exact .inr rfl) (hs : starEach (e :: es) X.env = (false, eval e X.env) :: starEach es X.env := by rfl) :
    AV X T (m1 || m2) (o1 && o2) (e :: es) (wCons w wr) := by
  obtain ⟨te, pe, ge⟩ := he
  obtain ⟨ta, pa, ga⟩ := hr
  refine ⟨_, pa_cons pe pa hs, fun z R σ H W ρ Q Q' s hw k => ?_⟩
  refine ge z R σ H W ρ _ _ s hw fun v1 H1 W1 d1 ρ1 F1 p q1 => ?_
  refine ga z R σ H1 W1 ρ1 _ _ p.sr q1 fun vs H2 W2 ds ρ2 F2 q q2 => ?_
  have r1 : Rep X.K H2 d1 v1 F1 := by
    rcases hc with hc | hc
    · exact p.rep.keep q.fr fun a h => ((p.own hc).2 a h).2
    · exact p.rep.same (q.calm hc).1
  refine k (v1 :: vs) H2 W2 (d1 :: ds) ρ2 (F1 ++ F2) ⟨q.sr, p.fr.trans q.fr, fun h => ?_, .cons r1 q.rep, fun h => ?_⟩ q2
  · rw [Bool.or_eq_false_iff] at h
    obtain ⟨a1, a2, a3⟩ := p.calm h.1
    obtain ⟨b1, b2, b3⟩ := q.calm h.2
    exact ⟨a1.trans b1, b2.trans a2, b3.trans a3⟩
  · rw [Bool.and_eq_true] at h
    obtain ⟨n1, k1⟩ := p.own h.1
    obtain ⟨n2, k2⟩ := q.own h.2
    refine ⟨List.nodup_append.mpr ⟨n1, n2, fun a ma b mb e => ?_⟩, fun a ma => ?_⟩
    · subst e
      obtain ⟨ob, e, _⟩ := p.rep.dom a ma
      rw [(k2 a mb).1] at e; cases e
    · rcases List.mem_append.mp ma with ma | ma
      · refine ⟨(k1 a ma).1, fun w => ?_⟩
        rcases q.fr.new a w with w | w
        · exact (k1 a ma).2 w
        · obtain ⟨ob, e, _⟩ := p.rep.dom a ma
          rw [w] at e; cases e
      · exact ⟨p.fr.dom a (k2 a ma).1, (k2 a ma).2⟩
def wTup (wr : WA) : WE := fun ρ Q => wr ρ fun ds ρ' => ds.length ≤ sizeLine ∧ Q (.tup ds) ρ'
def wLst (wr : WA) : WE := fun ρ Q => wr ρ fun ds ρ' => ds.length ≤ sizeLine ∧ Q (.lst ds) ρ'
theorem ev_tup {x1} (h : AV X T m o es wr) : EV X T m o (.Tuple es x1 pos) (wTup wr) := by
  obtain ⟨ta, pa, ga⟩ := h
  refine ⟨_, pe_tup pa, fun z R σ H W ρ Q Q' s hw k => ?_⟩
  refine ga z R σ H W ρ _ _ s hw fun vs H1 W1 ds ρ1 F p q => ?_
  obtain ⟨hz, q⟩ := q
  refine ⟨by rw [p.rep.length]; exact hz, fun a ha => k _ _ W1 (.tup ds) ρ1 F ⟨p.sr.same (same_upd ha), p.fr.trans (FrW.same W1 (same_upd ha)), fun h => ⟨(p.calm h).1.trans (same_upd ha), (p.calm h).2⟩, .tup upd_same (p.rep.same (same_upd ha)), p.own⟩ q⟩
theorem ev_lst (h : AV X T m o es wr) : EV X T m o (.List es pos) (wLst wr) := by
  obtain ⟨ta, pa, ga⟩ := h
  refine ⟨_, pe_lst pa, fun z R σ H W ρ Q Q' s hw k => ?_⟩
  refine ga z R σ H W ρ _ _ s hw fun vs H1 W1 ds ρ1 F p q => ?_
  obtain ⟨hz, q⟩ := q
  refine ⟨by rw [p.rep.length]; exact hz, fun a ha => k _ _ W1 (.lst ds) ρ1 (a :: F) ⟨p.sr.same (same_upd ha), p.fr.trans (FrW.same W1 (same_upd ha)), fun h => ⟨(p.calm h).1.trans (same_upd ha), (p.calm h).2⟩, .lst upd_same (p.rep.same (same_upd ha)), fun h => ?_⟩ q⟩
  obtain ⟨n1, k1⟩ := p.own h
  refine ⟨List.nodup_cons.mpr ⟨fun m => ?_, n1⟩, fun b mb => ?_⟩
  · obtain ⟨ob, e, _⟩ := p.rep.dom a m
    rw [ha] at e; cases e
  · rcases List.mem_cons.mp mb with rfl | mb
    · exact ⟨p.fr.dom _ ha, p.sr.nw ha⟩
    · exact k1 b mb
theorem ev_dnewK : EV X T false true (.Dict [] [] pos) (wC (.dik [])) :=
  ⟨_, pe_dnewK, fun z R σ H W ρ Q Q' s hw k a ha => k _ _ W (.dik []) ρ [a] (Post.fin s (FrW.refl H W) (fun _ => ⟨Same.refl H, rfl, rfl⟩) (same_upd ha) (.dik upd_same .nil) (by simp) (fun b m => by rw [List.mem_singleton.mp m]; exact ha)) hw⟩
abbrev GA := List D → (D → Prop) → Prop
def CallD (X : Cx) (f : Value) (g : GA) : Prop :=
  ∃ r, CallR X f r ∧ ∀ (H : Hp) (ds : List D) (xs : List V) (F : List Addr) (k : D → Prop) (Q : VK), Reps X.K H ds xs F → g ds k → (∀ v H' d F', Fin X.K H H' d v F' → k d → Q v H') → r xs H Q
def wCall (g : GA) (wr : WA) : WE := fun ρ Q => wr ρ fun ds ρ' => g ds fun d => Q d ρ'
variable {x : Str} {id T' : String} {p : Pos}
theorem call_fin {g : GA} {r : List V → Hp → VK → Prop} (gr : ∀ (H : Hp) (ds : List D) (xs : List V) (F : List Addr) (k : D → Prop) (Q : VK), Reps X.K H ds xs F → g ds k → (∀ v H' d F', Fin X.K H H' d v F' → k d → Q v H') → r xs H Q)
    {ta : TA} (ga : ∀ (z : Nat → V) (R : Addr → Prop) (σ : St) (H : Hp) (W : Addr → Prop) (ρ : Env) (Q : List D → Env → Prop) (Q' : List V → Hp → Prop), SR X.K T z R H W σ ρ → wr ρ Q →
      (∀ vs H' W' ds ρ' F, PostA X.K T z R m o H W σ ρ H' W' ρ' ds vs F → Q ds ρ' → Q' vs H') → ta σ H Q')
    {z : Nat → V} {R : Addr → Prop} {σ : St} {H : Hp} {W : Addr → Prop} {ρ : Env} {Q : D → Env → Prop} {Q' : VK} (s : SR X.K T z R H W σ ρ) (hw : wCall g wr ρ Q)
    (k : ∀ v H' W' d ρ' F, Post X.K T z R m true H W σ ρ H' W' ρ' d v F → Q d ρ' → Q' v H') : ta σ H fun vs H1 => r vs H1 Q' := by
  refine ga z R σ H W ρ _ _ s hw fun vs H1 W1 ds ρ1 F p q => ?_
  exact gr H1 ds vs F _ Q' p.rep q fun v H' d F' fi hk => k v H' W1 d ρ1 F' (Post.fin p.sr p.fr p.calm fi.same fi.rep fi.nd fi.new) hk
theorem ev_callB {g : GA} (hc : CallD X (.builtin id) g) (hm : X.mg x = none) (hv : bootBuiltins x = some (.builtin id)) (ha : AV X T m o (e :: es) wr) (hg : Gl X x := by rfl) (hn : x ≠ "__name__" := by decide) (hdb : (x == ("__debug__" : Str)) = false := by decide)
    (he : starEach (e :: es) X.env = (false, eval e X.env) :: starEach es X.env := by rfl) (hpl : (backTo pos (starEach es X.env)).any (·.1) = false := by rfl) : EV X T m true (.Call (.Name x p) (e :: es) [] pos) (wCall g wr) := by
  obtain ⟨r, rc, gr⟩ := hc
  obtain ⟨ta, pa, ga⟩ := ha
  exact ⟨_, pe_callB rc hg hm hv pa hn hdb he hpl, fun z R σ H W ρ Q Q' s hw k => call_fin gr ga s hw k⟩
theorem ev_callTy {g : GA} (hc : CallD X (.type T') g) (hm : X.mg x = none) (hv : bootBuiltins x = some (.type T')) (ha : AV X T m o (e :: es) wr) (hg : Gl X x := by rfl) (hn : x ≠ "__name__" := by decide) (hdb : (x == ("__debug__" : Str)) = false := by decide)
    (he : starEach (e :: es) X.env = (false, eval e X.env) :: starEach es X.env := by rfl) (hpl : (backTo pos (starEach es X.env)).any (·.1) = false := by rfl) : EV X T m true (.Call (.Name x p) (e :: es) [] pos) (wCall g wr) := by
  obtain ⟨r, rc, gr⟩ := hc
  obtain ⟨ta, pa, ga⟩ := ha
  exact ⟨_, pe_callTy rc hg hm hv pa hn hdb he hpl, fun z R σ H W ρ Q Q' s hw k => call_fin gr ga s hw k⟩
theorem ev_ty (t : Ty) (hm : X.mg x = none) (hv : bootBuiltins x = some (.type t.nm)) (hg : Gl X x := by rfl) (hn : x ≠ "__name__" := by decide) (hdb : (x == ("__debug__" : Str)) = false := by decide) : EV X T false true (.Name x pos) (wC (.ty t)) :=
  ev_const (pe_bltn hg hm hv (v := .ty t.nm) rfl hn hdb) fun _ => .ty t
theorem Reps.at1 {K : PySem.W.Frag} {H : Hp} {d : D} {xs : List V} {F : List Addr} (r : Reps K H [d] xs F) : ∃ v, xs = [v] ∧ Rep K H d v F := by
  cases r with
  | cons h r => cases r; rw [List.append_nil]; exact ⟨_, rfl, h⟩
theorem Reps.at2 {K : PySem.W.Frag} {H : Hp} {d e : D} {xs : List V} {F : List Addr} (r : Reps K H [d, e] xs F) : ∃ v u F1 F2, xs = [v, u] ∧ Rep K H d v F1 ∧ Rep K H e u F2 := by
  cases r with
  | cons h r =>
    obtain ⟨u, rfl, h2⟩ := r.at1
    exact ⟨_, _, _, _, rfl, h, h2⟩
def dLen : GA
  | [.lst xs], k => k (.int xs.length)
  | [.tup xs], k => k (.int xs.length)
  | [.kls xs], k => k (.int xs.length)
  | [.dik xs], k => k (.int xs.length)
  | [.str z], k => z.length ≤ sizeLine ∧ k (.int z.length)
  | _, _ => False
theorem cd_len : CallD X (.builtin "len") dLen := by
  refine ⟨_, CallR.or call_len call_lenD, fun H ds xs F k Q r g q => ?_⟩
  match ds, r, g with
  | [.lst es], r, g =>
    obtain ⟨v, rfl, rd⟩ := r.at1
    clear r
    cases rd with
    | lst e r9 => exact .inl ⟨_, _, rfl, .inl ⟨_, .of e, rfl⟩, by rw [r9.length]; exact q _ _ _ _ (.flat (.int _)) g⟩
  | [.tup es], r, g =>
    obtain ⟨v, rfl, rd⟩ := r.at1
    clear r
    cases rd with
    | tup e r9 => exact .inl ⟨_, _, rfl, .inr ⟨_, .of e, rfl⟩, by rw [r9.length]; exact q _ _ _ _ (.flat (.int _)) g⟩
  | [.kls es], r, g =>
    obtain ⟨v, rfl, rd⟩ := r.at1
    clear r
    cases rd with
    | kls e r9 => exact .inl ⟨_, _, rfl, .inl ⟨_, e.sq, rfl⟩, by rw [r9.length]; exact q _ _ _ _ (.flat (.int _)) g⟩
  | [.dik es], r, g =>
    obtain ⟨v, rfl, rd⟩ := r.at1
    clear r
    cases rd with
    | dik e r9 => exact .inr ⟨_, _, rfl, e, by rw [r9.length]; exact q _ _ _ _ (.flat (.int _)) g⟩
  | [.str es], r, g =>
    obtain ⟨v, rfl, rd⟩ := r.at1
    clear r
    cases rd
    exact .inl ⟨_, _, rfl, ⟨g.1, rfl⟩, q _ _ _ _ (.flat (.int _)) g.2⟩
def dInt : GA
  | [.int i], k => k (.int i)
  | [.bl b], k => k (.int (if b then 1 else 0))
  | _, _ => False
def dAbs : GA
  | [.int i], k => k (.int (if i < 0 then -i else i))
  | _, _ => False
def dMin2 : GA
  | [.int i, .int j], k => k (.int (if j < i then j else i))
  | _, _ => False
theorem cd_min2 (hc : X.calm = true) : CallD X (.builtin "min") dMin2 := by
  refine ⟨_, call_min2 hc, fun H ds xs F k Q r g q => ?_⟩
  match ds, r, g with
  | [.int i, .int j], r, g =>
    obtain ⟨v, u, F1, F2, rfl, r1, r2⟩ := r.at2
    cases r1; cases r2
    exact ⟨_, _, rfl, q _ _ _ _ (.flat (.int _)) g⟩
def dMax2 : GA
  | [.int i, .int j], k => k (.int (if j > i then j else i))
  | _, _ => False
def dList : GA
  | [.lst xs], k => pureL xs = true ∧ k (.lst xs)
  | [.tup xs], k => pureL xs = true ∧ k (.lst xs)
  | [.kls xs], k => pureL xs = true ∧ k (.lst xs)
  | _, _ => False
theorem cd_list : CallD X (.type "list") dList := by
  refine ⟨_, call_list_of, fun H ds xs F k Q r g q => ?_⟩
  match ds, r, g with
  | [.lst es], r, g =>
    obtain ⟨v, rfl, rd⟩ := r.at1
    clear r
    cases rd with
    | lst e r9 => exact ⟨_, _, rfl, .inl (.of e), fun l hl => q _ _ _ [l] ⟨same_upd hl, .lst upd_same ((r9.pure g.1).2.same (same_upd hl)), by simp, fun b m => by rw [List.mem_singleton.mp m]; exact hl⟩ g.2⟩
  | [.tup es], r, g =>
    obtain ⟨v, rfl, rd⟩ := r.at1
    clear r
    cases rd with
    | tup e r9 => exact ⟨_, _, rfl, .inr (.of e), fun l hl => q _ _ _ [l] ⟨same_upd hl, .lst upd_same ((r9.pure g.1).2.same (same_upd hl)), by simp, fun b m => by rw [List.mem_singleton.mp m]; exact hl⟩ g.2⟩
  | [.kls es], r, g =>
    obtain ⟨v, rfl, rd⟩ := r.at1
    clear r
    cases rd with
    | kls e r9 => exact ⟨_, _, rfl, .inl e.sq, fun l hl => q _ _ _ [l] ⟨same_upd hl, .lst upd_same ((r9.pure g.1).2.same (same_upd hl)), by simp, fun b m => by rw [List.mem_singleton.mp m]; exact hl⟩ g.2⟩
def dTuple : GA
  | [.lst xs], k => pureL xs = true ∧ k (.tup xs)
  | [.tup xs], k => pureL xs = true ∧ k (.tup xs)
  | [.kls xs], k => pureL xs = true ∧ k (.tup xs)
  | _, _ => False
theorem cd_tuple : CallD X (.type "tuple") dTuple := by
  refine ⟨_, call_tuple_of, fun H ds xs F k Q r g q => ?_⟩
  match ds, r, g with
  | [.lst es], r, g =>
    obtain ⟨v, rfl, rd⟩ := r.at1
    clear r
    cases rd with
    | lst e r9 => exact ⟨_, _, rfl, .inl ⟨.of e, fun l hl => q _ _ _ [] ⟨same_upd hl, .tup upd_same ((r9.pure g.1).2.same (same_upd hl)), by simp, fun b m => nomatch m⟩ g.2⟩⟩
  | [.tup es], r, g =>
    obtain ⟨v, rfl, rd⟩ := r.at1
    clear r
    cases rd with
    | tup e r9 => exact ⟨_, _, rfl, .inr ⟨.of e, q _ _ _ _ (.flat (.tup e (r9.pure g.1).2)) g.2⟩⟩
  | [.kls es], r, g =>
    obtain ⟨v, rfl, rd⟩ := r.at1
    clear r
    cases rd with
    | kls e r9 => exact ⟨_, _, rfl, .inl ⟨e.sq, fun l hl => q _ _ _ [] ⟨same_upd hl, .tup upd_same ((r9.pure g.1).2.same (same_upd hl)), by simp, fun b m => nomatch m⟩ g.2⟩⟩
end
end PV
set_option Elab.async false
set_option linter.all false
set_option maxRecDepth 100000
set_option maxHeartbeats 4000000
namespace PV
open PySem PySem.Spec L2
section
variable {X : Cx} {T : Tg} {m o m1 m2 m3 o1 o2 : Bool} {e a b : Expr} {w wa wb : WE} {pos p2 p : Pos} {es : List Expr} {wr : WA} {x : Str}
def isiD : D → Ty → Option Bool
  | .non, _ => some false
  | .bl _, t => some (t == .bool || t == .int)
  | .int _, t => some (t == .int)
  | .str _, t => some (t == .str)
  | .tup _, t => some (t == .tuple)
  | .lst _, t => some (t == .list)
  | .dik _, t => some (t == .dict)
  | .dit _, t => some (t == .dict)
  | .kls _, _ => none
  | .ty _, _ => none
  | .fdk _, _ => none
  | .ftp _, _ => none
  | .fls _, t => some (t == .list)
def dIsi : GA
  | [d, .ty t], k => oget (isiD d t) fun b => k (.bl b)
  | _, _ => False
theorem kit_nn {K : PySem.W.Frag} (t : Ty) : PySem.W.kitOne K (.type "NoneType") (.type t.nm) = some false := by
  cases t <;> (unfold PySem.W.kitOne; rw [if_neg (by decide)]; rfl)
theorem kit_bb {K : PySem.W.Frag} (t : Ty) : PySem.W.kitOne K (.type "bool") (.type t.nm) = some (t == .bool || t == .int) := by
  cases t <;> first | (unfold PySem.W.kitOne; rw [if_pos (by decide)]; rfl) | (unfold PySem.W.kitOne; rw [if_neg (by decide)]; rfl)
theorem kit_ii {K : PySem.W.Frag} (t : Ty) : PySem.W.kitOne K (.type "int") (.type t.nm) = some (t == .int) := by
  cases t <;> first | (unfold PySem.W.kitOne; rw [if_pos (by decide)]; rfl) | (unfold PySem.W.kitOne; rw [if_neg (by decide)]; rfl)
theorem kit_ss {K : PySem.W.Frag} (t : Ty) : PySem.W.kitOne K (.type "str") (.type t.nm) = some (t == .str) := by
  cases t <;> first | (unfold PySem.W.kitOne; rw [if_pos (by decide)]; rfl) | (unfold PySem.W.kitOne; rw [if_neg (by decide)]; rfl)
theorem kit_tt {K : PySem.W.Frag} (t : Ty) : PySem.W.kitOne K (.type "tuple") (.type t.nm) = some (t == .tuple) := by
  cases t <;> first | (unfold PySem.W.kitOne; rw [if_pos (by decide)]; rfl) | (unfold PySem.W.kitOne; rw [if_neg (by decide)]; rfl)
theorem kit_ll {K : PySem.W.Frag} (t : Ty) : PySem.W.kitOne K (.type "list") (.type t.nm) = some (t == .list) := by
  cases t <;> first | (unfold PySem.W.kitOne; rw [if_pos (by decide)]; rfl) | (unfold PySem.W.kitOne; rw [if_neg (by decide)]; rfl)
theorem kit_dd {K : PySem.W.Frag} (t : Ty) : PySem.W.kitOne K (.type "dict") (.type t.nm) = some (t == .dict) := by
  cases t <;> first | (unfold PySem.W.kitOne; rw [if_pos (by decide)]; rfl) | (unfold PySem.W.kitOne; rw [if_neg (by decide)]; rfl)
theorem cd_isi : CallD X (.builtin "isinstance") dIsi := by
  refine ⟨_, call_isinst, fun H ds xs F k Q r g q => ?_⟩
  match ds, r, g with
  | [d, .ty t], r, g =>
    obtain ⟨v, u, F1, F2, rfl, r1, r2⟩ := r.at2
    obtain ⟨b, hb, g⟩ := oget_some g
    cases r2
    have fin := q _ _ _ _ (.flat (.bl b)) g
    cases r1 with
    | non => exact ⟨_, _, _, _, rfl, .non, kit_nn t, by cases hb; exact fin⟩
    | bl c => exact ⟨_, _, _, _, rfl, .bl c, kit_bb t, by cases hb; exact fin⟩
    | int c => exact ⟨_, _, _, _, rfl, .int c, kit_ii t, by cases hb; exact fin⟩
    | str c => exact ⟨_, _, _, _, rfl, .str c, kit_ss t, by cases hb; exact fin⟩
    | tup e _ => exact ⟨_, _, _, _, rfl, .tup e, kit_tt t, by cases hb; exact fin⟩
    | lst e _ => exact ⟨_, _, _, _, rfl, .lst e, kit_ll t, by cases hb; exact fin⟩
    | dik e _ => exact ⟨_, _, _, _, rfl, .dK e, kit_dd t, by cases hb; exact fin⟩
    | dit e _ => exact ⟨_, _, _, _, rfl, .dT e, kit_dd t, by cases hb; exact fin⟩
    | kls _ _ => cases hb
    | ty _ => cases hb
    | fdk _ _ => cases hb
    | ftp _ _ _ => cases hb
    | fls e _ => exact ⟨_, _, _, _, rfl, .frz e, kit_ll t, by cases hb; exact fin⟩
theorem SR0.write {K : PySem.W.Frag} {z : Nat → V} {R : Addr → Prop} {H H' : Hp} {W : Addr → Prop} {σ : St} {ρ : Env} {fp : Nat → List Addr} {i : Nat} {d d' : D} {v : V} {l : Addr} {F' : List Addr} (s : SR0 K T z R H W σ ρ fp)
    (hl : look ρ i = some d) (ht : T.own i = true) (hv : σ[i]? = some (some v)) (hm : l ∈ fp i) (hk : ∀ b u, H b = some u → b ≠ l → H' b = some u) (hnew : ∃ ob, H' l = some ob ∧ imm ob = false) (r : Rep K H' d' v F') (nd : F'.Nodup)
    (sub : ∀ a ∈ F', a ∈ fp i ∨ (¬ W a ∧ ¬ R a)) : SR K T z R H' (fun a => W a ∨ a ∈ F') σ (ρ.set i (some d')) := by
  have hW : W l := (s.own i d hl ht).2 l hm
  have hi : ImmK H H' := fun b ob' e im => by
    obtain ⟨ol, e1, e2⟩ := s.wd l hW
    have : b ≠ l := fun z => by rw [z, e1] at e; cases e; rw [e2] at im; cases im
    exact hk b _ e this
  refine ⟨fun j => if j = i then F' else fp j, ?_, ?_, ?_, ?_, ?_, ?_, ?_, ?_, s.fix⟩
  · rw [List.length_set]; exact s.len
  · intro a ha
    by_cases e : a = l
    · subst e; exact hnew
    · rcases ha with ha | ha
      · exact (s.wd a ha).imp fun ob q => ⟨hk a ob q.1 e, q.2⟩
      · exact r.dom a ha
  · intro j e hj
    by_cases hji : j = i
    · subst hji
      rw [look_set_same (look_lt hl)] at hj
      cases hj
      exact ⟨v, hv, by rw [if_pos rfl]; exact r⟩
    · rw [look_set_ne hji] at hj
      obtain ⟨u, h1, h2⟩ := s.at_ j e hj
      refine ⟨u, h1, ?_⟩
      rw [if_neg hji]
      refine h2.frame hi fun a ha => ?_
      obtain ⟨oa, e1, _⟩ := h2.dom a ha
      rw [e1]
      refine hk a _ e1 fun z => ?_
      subst z
      cases hto : T.own j with
      | true => exact s.dis i j d e hl hj ht hto (fun z => hji z.symm) _ hm ha
      | false => exact s.wr _ hW (s.ro j e hj hto _ ha)
  · intro j e hj hto
    by_cases hji : j = i
    · subst hji; simp only [if_pos]; exact ⟨nd, fun a h => .inr h⟩
    · rw [look_set_ne hji] at hj
      simp only [if_neg hji]
      exact ⟨(s.own j e hj hto).1, fun a h => .inl ((s.own j e hj hto).2 a h)⟩
  · intro j e hj hto
    have hji : j ≠ i := fun z => by subst z; rw [ht] at hto; cases hto
    rw [look_set_ne hji] at hj
    simp only [if_neg hji]
    exact s.ro j e hj hto
  · intro a ha hr
    rcases ha with ha | ha
    · exact s.wr a ha hr
    · rcases sub a ha with h | h
      · exact s.wr a ((s.own i d hl ht).2 a h) hr
      · exact h.2 hr
  · intro a hr
    have : a ≠ l := fun z => by subst z; exact s.wr _ hW hr
    exact (s.rd a hr).imp fun ob q => ⟨hk a ob q.1 this, q.2⟩
  · intro j k e e' hj hk tj tk hne a ha ha'
    by_cases hji : j = i
    · subst hji
      have hkj : k ≠ j := fun z => hne z.symm
      rw [look_set_ne hkj] at hk
      simp only [if_pos, if_neg hkj] at ha ha'
      rcases sub a ha with h | h
      · exact s.dis j k d e' hl hk ht tk hne a h ha'
      · exact h.1 ((s.own k e' hk tk).2 a ha')
    · rw [look_set_ne hji] at hj
      simp only [if_neg hji] at ha
      by_cases hki : k = i
      · subst hki
        simp only [if_pos] at ha'
        rcases sub a ha' with h | h
        · exact s.dis j k e d hj hl tj ht hne a ha h
        · exact h.1 ((s.own j e hj tj).2 a ha)
      · rw [look_set_ne hki] at hk
        simp only [if_neg hki] at ha'
        exact s.dis j k e e' hj hk tj tk hne a ha ha'
theorem FrW.write {H0 H H' : Hp} {W0 W : Addr → Prop} {l : Addr} {F' : List Addr} (f : FrW H0 W0 H W) (hl : W l) (hm : ∃ ol, H l = some ol ∧ PV.imm ol = false) (hk : ∀ b u, H b = some u → b ≠ l → H' b = some u) (hnew : ∃ ob, H' l = some ob ∧ PV.imm ob = false)
    (sub : ∀ a ∈ F', W a ∨ H0 a = none) : FrW H0 W0 H' (fun a => W a ∨ a ∈ F') where
  keep := fun b ob' e n => by
    have : b ≠ l := fun z => by
      subst z
      rcases f.new _ hl with h | h
      · exact n h
      · rw [h] at e; cases e
    exact hk b _ (f.keep b ob' e n) this
  dom := fun b e => by
    by_cases h : b = l
    · subst h
      obtain ⟨ob, e1, _⟩ := hnew
      rw [e1] at e; cases e
    · refine f.dom b ?_
      cases q : H b with
      | none => rfl
      | some u => rw [hk b u q h] at e; cases e
  imm := fun b ob' e im => by
    have e' := f.imm b ob' e im
    obtain ⟨ol, e1, e2⟩ := hm
    have : b ≠ l := fun z => by rw [z, e1] at e'; cases e'; rw [e2] at im; cases im
    exact hk b _ e' this
  new := fun b h => by
    rcases h with h | h
    · exact f.new b h
    · rcases sub b h with h | h
      · exact f.new b h
      · exact .inr h
theorem upd_keep {H : Hp} {l : Addr} {ob : HO} : ∀ b u, H b = some u → b ≠ l → upd H l ob b = some u := fun b u e n => by rw [upd_ne n]; exact e
abbrev GM := D → List D → (D → D → Prop) → Prop
def MtD (X : Cx) (id : String) (g : GM) : Prop :=
  ∃ r, MtR X id r ∧ ∀ (H : Hp) (d : D) (ds : List D) (v : V) (xs : List V) (F G : List Addr) (k : D → D → Prop) (Q : VK), Rep X.K H d v F → F.Nodup → Reps X.K H ds xs G → G.Nodup → (∀ a ∈ G, a ∉ F) → g d ds k →
    (∀ u l ob e d' F', l ∈ F → imm ob = false → Rep X.K (upd H l ob) d' v F' → F'.Nodup → (∀ a ∈ F', a ∈ F ∨ a ∈ G) → Rep X.K (upd H l ob) e u [] → k e d' → Q u (upd H l ob)) → r v xs H Q
def tyD : Option D → String → Bool
  | some (.lst _), t => t == "list"
  | some (.dik _), t => t == "dict"
  | some (.dit _), t => t == "dict"
  | _, _ => false
theorem tyV_of {K : PySem.W.Frag} {H : Hp} {d : D} {v : V} {F : List Addr} {t : String} (r : Rep K H d v F) (h : tyD (some d) t = true) : tyV K t v H := by
  cases r <;> try (simp [tyD] at h)
  · subst h; exact .inl ⟨rfl, _, .of ‹_›⟩
  · subst h; exact .inr (.inr (.inl ⟨rfl, .inl ⟨_, ‹_›⟩⟩))
  · subst h; exact .inr (.inr (.inl ⟨rfl, .inr ⟨_, ‹_›⟩⟩))
def wMt (i : Nat) (t : String) (g : GM) (wr : WA) : WE := fun ρ Q => tyD (look ρ i) t = true ∧ wr ρ fun ds ρ1 => oget (look ρ1 i) fun d => g d ds fun e d' => Q e (ρ1.set i (some d'))
theorem mt_fin {i : Nat} {t : String} {g : GM} {r : V → List V → Hp → VK → Prop} (ht : T.own i = true)
    (gr : ∀ (H : Hp) (d : D) (ds : List D) (v : V) (xs : List V) (F G : List Addr) (k : D → D → Prop) (Q : VK), Rep X.K H d v F → F.Nodup → Reps X.K H ds xs G → G.Nodup → (∀ a ∈ G, a ∉ F) → g d ds k →
      (∀ u l ob e d' F', l ∈ F → imm ob = false → Rep X.K (upd H l ob) d' v F' → F'.Nodup → (∀ a ∈ F', a ∈ F ∨ a ∈ G) → Rep X.K (upd H l ob) e u [] → k e d' → Q u (upd H l ob)) → r v xs H Q)
    {ta : TA} (ga : ∀ (z : Nat → V) (R : Addr → Prop) (σ : St) (H : Hp) (W : Addr → Prop) (ρ : Env) (Q : List D → Env → Prop) (Q' : List V → Hp → Prop), SR X.K T z R H W σ ρ → wr ρ Q →
      (∀ vs H' W' ds ρ' F, PostA X.K T z R m true H W σ ρ H' W' ρ' ds vs F → Q ds ρ' → Q' vs H') → ta σ H Q')
    {z : Nat → V} {R : Addr → Prop} {σ : St} {H : Hp} {W : Addr → Prop} {ρ : Env} {Q : D → Env → Prop} {Q' : VK} (s : SR X.K T z R H W σ ρ) (hw : wMt i t g wr ρ Q)
    (k : ∀ v H' W' d ρ' F, Post X.K T z R true true H W σ ρ H' W' ρ' d v F → Q d ρ' → Q' v H') : tVar i σ H fun x H1 => tyV X.K t x H1 ∧ ta σ H1 fun xs H2 => r x xs H2 Q' := by
  obtain ⟨hty, hw⟩ := hw
  obtain ⟨fp0, s0⟩ := id s
  cases hl : look ρ i with
  | none => rw [hl] at hty; cases hty
  | some d0 =>
    obtain ⟨v, hv, r0⟩ := s0.at_ i d0 hl
    refine ⟨v, hv, tyV_of r0 (by rw [hl] at hty; exact hty), ?_⟩
    refine ga z R σ H W ρ _ _ s hw fun vs H1 W1 ds ρ1 G p q => ?_
    obtain ⟨d, hd, q⟩ := oget_some q
    obtain ⟨fp, s1⟩ := id p.sr
    obtain ⟨v', hv', r1⟩ := s1.at_ i d hd
    have : v' = v := by rw [hv] at hv'; cases hv'; rfl
    subst this
    obtain ⟨nd1, sw⟩ := s1.own i d hd ht
    obtain ⟨ndG, kG⟩ := p.own rfl
    refine gr H1 d ds v' vs (fp i) G _ Q' r1 nd1 p.rep ndG (fun a ha hf => (kG a ha).2 (sw a hf)) q fun u l ob e d' F' hlF him rd' ndF sub re hk => ?_
    have hWl := sw l hlF
    refine k u _ (fun a => W1 a ∨ a ∈ F') e _ [] ⟨s1.write hd ht hv' hlF upd_keep ⟨ob, upd_same, him⟩ rd' ndF (fun a ha => ?_), p.fr.write hWl (s1.wd l hWl) upd_keep ⟨ob, upd_same, him⟩ (fun a ha => ?_), (fun h => nomatch h), re, fun _ => ⟨List.nodup_nil, fun a m => nomatch m⟩⟩ hk
    · rcases sub a ha with h | h
      · exact .inl h
      · exact .inr ⟨(kG a h).2, s.nr (kG a h).1⟩
    · rcases sub a ha with h | h
      · exact .inl (sw a h)
      · exact .inr (kG a h).1
variable {name : Str} {apos cpos : Pos} {T' id : String}
theorem ev_mt {i : Nat} {g : GM} (hm : MtD X id g) (pa : PlainAttrs T') (slot : Slot T' name id) (hty : typeOf (.builtin id) = pure (.type "method_descriptor")) (ha : AV X T m true (e :: es) wr)
    (ht : T.own i = true := by rfl) (hN : X.N[i]? = some x := by rfl) (hv : Vis X.env.scope x := by first | exact Or.inl rfl | exact Or.inr (Or.inl rfl) | exact Or.inr (Or.inr rfl)) (hd : (x == ("__debug__" : Str)) = false := by decide)
    (hcd : (x == ("__classdict__" : Str)) = false := by decide)
    (hbase : attributeBase (.Name x p) name X.env (eval (.Name x p) X.env) = eval (.Name x p) X.env := by rfl)
    (hfew : ((backTo cpos (starEach (e :: es) X.env)).all (fun x => !x.1) && (backToKw cpos (keywordEach [] X.env)).all (fun x => x.1.isSome)
      && decide ((e :: es).length + ([] : List Keyword).length + (if ([] : List Keyword).isEmpty then 0 else 1) < 30)) = true := by rfl)
    (hline : (apos.endLine == cpos.line) = true := by rfl) (hs : starEach (e :: es) X.env = (false, eval e X.env) :: starEach es X.env := by rfl) (hplain : (backTo cpos (starEach es X.env)).any (·.1) = false := by rfl) :
    EV X T true true (.Call (.Attribute (.Name x p) name apos) (e :: es) [] cpos) (wMt i T' g wr) := by
  obtain ⟨r, mr, gr⟩ := hm
  obtain ⟨ta, pa', ga⟩ := ha
  exact ⟨_, pe_bm pa slot hty mr (pe_var hN hv hd hcd) pa' hbase hfew hline hs hplain, fun z R σ H W ρ Q Q' s hw k => mt_fin ht gr ga s hw k⟩
def gAppend : GM
  | .lst xs, [d], k => xs.length < sizeLine ∧ k .non (.lst (xs ++ [d]))
  | _, _, _ => False
theorem nodup_ins {α : Type} {F G : List α} (h : F.Nodup) (h' : G.Nodup) (d : ∀ a ∈ G, a ∉ F) : (F ++ G).Nodup :=
  List.nodup_append.mpr ⟨h, h', fun a ha b hb e => d b hb (e ▸ ha)⟩
theorem imm_upd {H : Hp} {l : Addr} {ob ob' : HO} (h : H l = some ob) (hi : imm ob = false) : ImmK H (upd H l ob') := fun b u e im => by
  have : b ≠ l := fun z => by rw [z, h] at e; cases e; rw [hi] at im; cases im
  rw [upd_ne this]; exact e
theorem Reps.upd {K : PySem.W.Frag} {H : Hp} {ds : List D} {xs : List V} {F : List Addr} {l : Addr} {ob ob' : HO} (r : Reps K H ds xs F) (h : H l = some ob) (hi : imm ob = false) (hn : l ∉ F) : Reps K (L2.upd H l ob') ds xs F :=
  r.frame (imm_upd h hi) fun a ha => upd_ne fun z => hn (z ▸ ha)
theorem Rep.upd {K : PySem.W.Frag} {H : Hp} {d : D} {x : V} {F : List Addr} {l : Addr} {ob ob' : HO} (r : Rep K H d x F) (h : H l = some ob) (hi : imm ob = false) (hn : l ∉ F) : Rep K (L2.upd H l ob') d x F :=
  r.frame (imm_upd h hi) fun a ha => upd_ne fun z => hn (z ▸ ha)
theorem RepK.upd {K : PySem.W.Frag} {H : Hp} {ds : List (Key × D)} {xs : List (Key × V)} {F : List Addr} {l : Addr} {ob ob' : HO} (r : RepK K H ds xs F) (h : H l = some ob) (hi : imm ob = false) (hn : l ∉ F) : RepK K (L2.upd H l ob') ds xs F :=
  r.frame (imm_upd h hi) fun a ha => upd_ne fun z => hn (z ▸ ha)
theorem RepT.upd {K : PySem.W.Frag} {H : Hp} {ds : List (List Key × D)} {xs : List (List Key × V)} {F : List Addr} {l : Addr} {ob ob' : HO} (r : RepT K H ds xs F) (h : H l = some ob) (hi : imm ob = false) (hn : l ∉ F) : RepT K (L2.upd H l ob') ds xs F :=
  r.frame (imm_upd h hi) fun a ha => upd_ne fun z => hn (z ▸ ha)
theorem md_append : MtD X "list.append" gAppend := by
  refine ⟨_, mt_append, fun H d ds v xs F G k Q r nd rs ndG dis g q => ?_⟩
  match d, ds, r, rs, g with
  | .lst es, [d], r, rs, g =>
    obtain ⟨u, rfl, rd⟩ := rs.at1
    cases r with
    | @lst l ys _ F e r9 =>
      obtain ⟨hz, g⟩ := g
      obtain ⟨nl, nd⟩ := List.nodup_cons.mp nd
      have hG : l ∉ G := fun h => dis l h List.mem_cons_self
      refine ⟨l, ys, u, rfl, rfl, e, by rw [r9.length]; exact hz, ?_⟩
      refine q .non l _ .non _ (l :: (F ++ G)) List.mem_cons_self rfl (.lst upd_same ((r9.upd e rfl nl).snoc (rd.upd e rfl hG))) (List.nodup_cons.mpr ⟨fun h => (List.mem_append.mp h).elim nl hG, nodup_ins nd ndG fun a ha hf => dis a ha (List.mem_cons_of_mem _ hf)⟩) (fun a ha => ?_) .non g
      rcases List.mem_cons.mp ha with rfl | ha
      · exact .inl List.mem_cons_self
      · rcases List.mem_append.mp ha with ha | ha
        · exact .inl (List.mem_cons_of_mem _ ha)
        · exact .inr ha
def gPopAt : GM
  | .lst xs, [.int i], k => -(2 ^ 63) ≤ i ∧ i < 2 ^ 63 ∧ oget (seqIndex? i xs.length) fun j => oget xs[j]? fun d => d.pure = true ∧ k d (.lst (xs.eraseIdx j))
  | _, _, _ => False
theorem sub3 {α : Type} {F A B C : List α} (h : F = A ++ B ++ C) : (A ++ C).Sublist F := by
  rw [h, List.append_assoc]
  exact List.Sublist.append (List.Sublist.refl _) (List.sublist_append_right _ _)
def gPop : GM
  | .lst xs, [], k => oget xs[xs.length - 1]? fun d => d.pure = true ∧ k d (.lst xs.dropLast)
  | _, _, _ => False
def gClear : GM
  | .lst _, [], k => k .non (.lst [])
  | _, _, _ => False
end
end PV
set_option Elab.async false
set_option linter.all false
set_option maxRecDepth 100000
set_option maxHeartbeats 4000000
namespace PV
open PySem PySem.Spec L2
def spR (K : PySem.W.Frag) (g : GA) : Sp := fun vs H Q _ => ∃ (ds : List D) (F : List Addr) (k : D → Prop), Reps K H ds vs F ∧ g ds k ∧ ∀ v H' d F', Fin K H H' d v F' → k d → Q v H'
abbrev GI := List D → (D → D → Prop) → Prop
def spI (K : PySem.W.Frag) (p : Nat) (g : GI) : Sp := fun vs H Q _ => ∃ (ds : List D) (a : Addr) (k : D → D → Prop), Reps K H ds vs [a] ∧ vs[p]? = some (.ref a) ∧ g ds k ∧
  ∀ v H' d d' F', Rep K H' d' (.ref a) [a] → Rep K H' d v F' → F'.Nodup → (∀ b ∈ F', H b = none) → (∀ b o, H b = some o → b ≠ a → H' b = some o) → k d d' → Q v H'
def flatD : D → Bool
  | .lst xs => pureL xs
  | .dik kvs => kvs.all fun kv => kv.2.pure
  | .dit kvs => kvs.all fun kv => kv.2.pure
  | _ => false
theorem RepK.pure {K : PySem.W.Frag} {H : Hp} : ∀ {ds : List (Key × D)} {xs : List (Key × V)} {F : List Addr}, RepK K H ds xs F → (ds.all fun kv => kv.2.pure) = true → F = []
  | [], _, _, r, _ => by cases r; rfl
  | d :: ds, _, _, r, h => by
    rw [List.all_cons, Bool.and_eq_true] at h
    cases r with
    | cons p r => rw [(p.pure h.1).1, RepK.pure r h.2]; rfl
theorem RepT.pure {K : PySem.W.Frag} {H : Hp} : ∀ {ds : List (List Key × D)} {xs : List (List Key × V)} {F : List Addr}, RepT K H ds xs F → (ds.all fun kv => kv.2.pure) = true → F = []
  | [], _, _, r, _ => by cases r; rfl
  | d :: ds, _, _, r, h => by
    rw [List.all_cons, Bool.and_eq_true] at h
    cases r with
    | cons p r => rw [(p.pure h.1).1, RepT.pure r h.2]; rfl
theorem Rep.flat1 {K : PySem.W.Frag} {H : Hp} {d : D} {v : V} {F : List Addr} (r : Rep K H d v F) (h : flatD d = true) : ∃ a, v = .ref a ∧ F = [a] := by
  cases r with
  | lst e r => exact ⟨_, rfl, by rw [(r.pure (by simpa [flatD] using h)).1]⟩
  | dik e r => exact ⟨_, rfl, by rw [r.pure (by simpa [flatD] using h)]⟩
  | dit e r => exact ⟨_, rfl, by rw [r.pure (by simpa [flatD] using h)]⟩
  | _ => simp [flatD] at h
section
variable {X : Cx} {T : Tg} {m o m0 m1 m2 m3 o1 o2 : Bool} {e a b : Expr} {w wa wb : WE} {pos p2 p : Pos} {es : List Expr} {wr : WA} {x : Str} {k : Nat} {f : Addr} {fd : FuncData} {ps : List Str}
theorem ev_call {g : GA} (F : FnOk X.prog X.w X.K X.mg X.base CX0 k f fd ps (spR X.K g)) (hr : Room k X.A) (hm : X.mg x = some (.ref f)) (hk : PySem.W.keepIn X.K (.ref f) = true) (hb : Binds X.K fd ps []) (ha : AV X T m o (e :: es) wr) (hg : Gl X x := by rfl)
    (hdb : (x == ("__debug__" : Str)) = false := by decide) (he : starEach (e :: es) X.env = (false, eval e X.env) :: starEach es X.env := by rfl) (hpl : (backTo pos (starEach es X.env)).any (·.1) = false := by rfl) :
    EV X T m true (.Call (.Name x p) (e :: es) [] pos) (wCall g wr) := by
  obtain ⟨ta, pa, ga⟩ := ha
  refine ⟨_, pe_call F hr hg hm hk hb .nil pass0 pa hdb he hpl, fun z R σ H W ρ Q Q' s hw k => ?_⟩
  refine ga z R σ H W ρ _ _ s hw fun vs H1 W1 ds ρ1 F p q => ?_
  refine ⟨ds, F, _, by rw [List.append_nil]; exact p.rep, q, fun v H' d F' fi hk => k v H' W1 d ρ1 F' (Post.fin p.sr p.fr p.calm fi.same fi.rep fi.nd fi.new) hk⟩
abbrev WI := Env → (List D → List D → Env → Prop) → Prop
def AI (X : Cx) (T : Tg) (m : Bool) (i p : Nat) (es : List Expr) (w : WI) : Prop :=
  ∃ ta, PA X es ta ∧ ∀ (z : Nat → V) (R : Addr → Prop) (σ : St) (H : Hp) (W : Addr → Prop) (ρ : Env) (Q : List D → List D → Env → Prop) (Q' : List V → Hp → Prop), SR X.K T z R H W σ ρ → w ρ Q →
    (∀ v xs ys H' W' pre post ρ', PostT X.K T z R m H W σ ρ H' W' ρ' → σ[i]? = some (some v) → Reps X.K H' pre xs [] → Reps X.K H' post ys [] → pre.length = p → Q pre post ρ' → Q' (xs ++ v :: ys) H') → ta σ H Q'
def wHere (i : Nat) (wr : WA) : WI := fun ρ Q => (look ρ i).isSome = true ∧ wr ρ fun ds ρ' => pureL ds = true ∧ Q [] ds ρ'
theorem ai_here {i : Nat} (hr : AV X T m o es wr) (hN : X.N[i]? = some x := by rfl) (hv : Vis X.env.scope x := by first | exact Or.inl rfl | exact Or.inr (Or.inl rfl) | exact Or.inr (Or.inr rfl)) (hd : (x == ("__debug__" : Str)) = false := by decide)
    (hcd : (x == ("__classdict__" : Str)) = false := by decide) (hs : starEach (.Name x p :: es) X.env = (false, eval (.Name x p) X.env) :: starEach es X.env := by rfl) : AI X T m i 0 (.Name x p :: es) (wHere i wr) := by
  obtain ⟨ta, pa, ga⟩ := hr
  refine ⟨_, pa_cons (pe_var hN hv hd hcd) pa hs, fun z R σ H W ρ Q Q' s hw k => ?_⟩
  obtain ⟨h1, hw⟩ := hw
  obtain ⟨d, hl⟩ := Option.isSome_iff_exists.mp h1
  obtain ⟨fp, s0⟩ := id s
  obtain ⟨v, hv', _⟩ := s0.at_ i d hl
  refine ⟨v, hv', ga z R σ H W ρ _ _ s hw fun vs H1 W1 ds ρ1 F p q => ?_⟩
  exact k v [] vs H1 W1 [] ds ρ1 ⟨p.sr, p.fr, p.calm⟩ hv' .nil (p.rep.pure q.1).2 rfl q.2
def wSkip (w : WE) (wi : WI) : WI := fun ρ Q => w ρ fun d ρ1 => d.pure = true ∧ wi ρ1 fun pre post ρ2 => Q (d :: pre) post ρ2
theorem ai_skip {i q : Nat} {wi : WI} (he : EV X T m1 o e w) (hr : AI X T m2 i q es wi) (hs : starEach (e :: es) X.env = (false, eval e X.env) :: starEach es X.env := by rfl) : AI X T (m1 || m2) i (q + 1) (e :: es) (wSkip w wi) := by
  obtain ⟨te, pe, ge⟩ := he
  obtain ⟨ta, pa, ga⟩ := hr
  refine ⟨_, pa_cons pe pa hs, fun z R σ H W ρ Q Q' s hw k => ?_⟩
  refine ge z R σ H W ρ _ _ s hw fun v1 H1 W1 d1 ρ1 F1 p ⟨hp, q1⟩ => ?_
  obtain ⟨_, r1⟩ := p.rep.pure hp
  refine ga z R σ H1 W1 ρ1 _ _ p.sr q1 fun v xs ys H2 W2 pre post ρ2 q hv rp rq hl q2 => ?_
  exact k v (v1 :: xs) ys H2 W2 (d1 :: pre) post ρ2 (PostT.seq ⟨p.sr, p.fr, p.calm⟩ q) hv (.cons (F := []) (G := []) (r1.keep q.fr fun a m => nomatch m) rp) rq (by rw [List.length_cons, hl]) q2
def wCallI (i : Nat) (g : GI) (wi : WI) : WE := fun ρ Q => wi ρ fun pre post ρ1 => oget (look ρ1 i) fun d0 => flatD d0 = true ∧ g (pre ++ d0 :: post) fun d d' => Q d (ρ1.set i (some d'))
theorem ev_callI {i q : Nat} {g : GI} {wi : WI} (F : FnOk X.prog X.w X.K X.mg X.base CX0 k f fd ps (spI X.K q g)) (hr : Room k X.A) (hm : X.mg x = some (.ref f)) (hk : PySem.W.keepIn X.K (.ref f) = true) (hb : Binds X.K fd ps []) (ha : AI X T m i q (e :: es) wi)
    (ht : T.own i = true := by rfl) (hg : Gl X x := by rfl)
    (hdb : (x == ("__debug__" : Str)) = false := by decide) (he : starEach (e :: es) X.env = (false, eval e X.env) :: starEach es X.env := by rfl) (hpl : (backTo pos (starEach es X.env)).any (·.1) = false := by rfl) :
    EV X T true true (.Call (.Name x p) (e :: es) [] pos) (wCallI i g wi) := by
  obtain ⟨ta, pa, ga⟩ := ha
  refine ⟨_, pe_call F hr hg hm hk hb .nil pass0 pa hdb he hpl, fun z R σ H W ρ Q Q' s hw k => ?_⟩
  refine ga z R σ H W ρ _ _ s hw fun v xs ys H1 W1 pre post ρ1 p hv rp rq hl q => ?_
  obtain ⟨d0, hd, hf, q⟩ := oget_some q
  obtain ⟨fp, s1⟩ := id p.sr
  obtain ⟨v', hv', r0⟩ := s1.at_ i d0 hd
  have : v' = v := by rw [hv] at hv'; cases hv'; rfl
  subst this
  obtain ⟨a, rfl, hF⟩ := r0.flat1 hf
  rw [hF] at r0
  have sw := (s1.own i d0 hd ht).2
  have hWa : W1 a := sw a (by rw [hF]; exact List.mem_singleton.mpr rfl)
  refine ⟨pre ++ d0 :: post, a, _, ?_, ?_, q, fun v H' d d' F' rd' rd nd new kp hk => ?_⟩
  · rw [List.append_nil]
    have := rp.append (.cons r0 rq)
    simpa using this
  · rw [List.append_nil]
    have hx := rp.length
    rw [List.getElem?_append_right (by omega), show _ - xs.length = 0 by omega]
    rfl
  · obtain ⟨oa, ea, ia⟩ := s1.wd a hWa
    have hnew : ∃ ob, H' a = some ob ∧ imm ob = false := rd'.dom a (List.mem_singleton.mpr rfl)
    have nd1 : ([a] : List Addr).Nodup := by simp
    have sN := s1.write (H' := H') (d' := d') (F' := [a]) hd ht hv' (by rw [hF]; exact List.mem_singleton.mpr rfl) (fun b u e n => kp b u e n) hnew rd' nd1 (fun b hb => .inl (by rw [hF]; exact hb))
    have fN := p.fr.write (H' := H') (F' := [a]) hWa ⟨oa, ea, ia⟩ (fun b u e n => kp b u e n) hnew (fun b hb => .inl (by rw [List.mem_singleton.mp hb]; exact hWa))
    refine k v H' _ d _ F' ⟨sN, fN, (fun h => nomatch h), rd, fun _ => ⟨nd, fun b hb => ⟨p.fr.dom b (new b hb), fun hw => ?_⟩⟩⟩ hk
    rcases hw with hw | hw
    · exact p.sr.nw (new b hb) hw
    · rw [List.mem_singleton.mp hw] at hb
      rw [new a hb] at ea; cases ea
abbrev WL := Env → (List D → Env → Prop) → Prop
def JD (K : PySem.W.Frag) (J : It) (H : Hp) (W : Addr → Prop) (ds : List D) : Prop :=
  ∀ (i : Nat) (H1 : Hp) (W1 : Addr → Prop), FrW H W H1 W1 → (ds.length ≤ i → J.stop i H1) ∧ ∀ d, ds[i]? = some d → J.go i H1 ∧ ∀ v H2, J.yld i H1 v H2 → Same H1 H2 ∧ ∃ F, Rep K H2 d v F ∧ ∀ a ∈ F, ¬ W1 a
def wz (pr : Bool) (W : Addr → Prop) : Addr → Prop := fun a => pr = true ∧ W a
def IV (X : Cx) (T : Tg) (m pr : Bool) (tg iter : Expr) (w : WL) : Prop :=
  ∃ wi, PI X tg iter wi ∧ ∀ (z : Nat → V) (R : Addr → Prop) (σ : St) (H : Hp) (W : Addr → Prop) (ρ : Env) (Q : List D → Env → Prop) (RR : It → Hp → Prop), SR X.K T z R H W σ ρ → w ρ Q →
    (∀ J H' W' ds ρ', PostT X.K T z R m H W σ ρ H' W' ρ' → JD X.K J H' (wz pr W') ds → Q ds ρ' → RR J H') → wi σ H RR
variable {tg iter : Expr}
theorem pi_seq {l : Expr} {tl : TE} (hl : PE X l tl) : PI X tg l (fun σ H R => tl σ H fun x H1 => ∃ a, x = .ref a ∧ (((∃ xs, SqL X.K H1 a xs) ∧ R (Itl X.K a) H1) ∨ ((∃ xs, SqT X.K H1 a xs) ∧ R (Itt X.K a) H1))) := by
  intro pins s σ H R I h
  refine thn (hl pins s σ H _ I h) fun v s1 ⟨x, H1, I1, r1, q1⟩ => ?_
  obtain ⟨a, e, q⟩ := q1
  subst e
  cases r1
  rcases q with ⟨⟨xs, hq⟩, q⟩ | ⟨⟨xs, hq⟩, q⟩
  · obtain ⟨its, rv, p, hz⟩ := I1.list hq
    refine wpAny_pyIter_list p.isList ?_
    refine ⟨s1.heap.objs.size, [s1.heap.objs.size], _, _, H1, rfl, I1.kept (t' := s1.toks) fun b o e => Heap.get?_push_of_some _ e, turn_list a _, ⟨_, Heap.get?_push_size _ rfl, rfl, rfl⟩, fun b hb => ?_, q⟩
    have e : b = s1.heap.objs.size := by simpa using hb
    subst e
    exact I1.fpOk (Nat.le_refl _) (I1.hok.fresh (Nat.le_refl _))
  · obtain ⟨its, rv, p, hz⟩ := I1.tuple hq
    refine wpAny_pyIter_tuple (show s1.heap.IsTuple a its.toArray from p) ?_
    refine ⟨s1.heap.objs.size, [s1.heap.objs.size], _, _, H1, rfl, I1.kept (t' := s1.toks) fun b o e => Heap.get?_push_of_some _ e, turn_tuple a _, ⟨_, Heap.get?_push_size _ rfl, rfl, rfl⟩, fun b hb => ?_, q⟩
    have e : b = s1.heap.objs.size := by simpa using hb
    subst e
    exact I1.fpOk (Nat.le_refl _) (I1.hok.fresh (Nat.le_refl _))
def seqD (pr : Bool) : D → Option (List D)
  | .tup ds => if pureL ds then some ds else none
  | .lst ds => some ds
  | _ => none
def wSeqD (w : WE) : WL := fun ρ Q => w ρ fun d ρ' => match d with
  | .tup ds => pureL ds = true ∧ Q ds ρ'
  | .lst ds => Q ds ρ'
  | _ => False
theorem iv_seq (h : EV X T m o e w) : IV X T m o tg e (wSeqD w) := by
  obtain ⟨te, pe, ge⟩ := h
  refine ⟨_, pi_seq pe, fun z R σ H W ρ Q RR s hw k => ?_⟩
  refine ge z R σ H W ρ _ _ s hw fun v H1 W1 d ρ1 F p q => ?_
  cases d with
  | tup ds =>
    obtain ⟨hp, q⟩ := q
    obtain ⟨hF, rp⟩ := p.rep.pure (by simpa [D.pure] using hp)
    cases rp with
    | @tup a xs _ _ e1 r =>
      refine ⟨a, rfl, .inr ⟨⟨xs, .of e1⟩, k _ H1 W1 ds ρ1 ⟨p.sr, p.fr, p.calm⟩ (fun i H2 W2 f => ?_) q⟩⟩
      have e2 : H2 a = some (.tup xs) := f.imm _ _ e1 rfl
      refine ⟨fun hi => ⟨xs, .of e2, by rw [r.length]; exact hi⟩, fun d hd => ?_⟩
      obtain ⟨x, B, hx, rx, sx⟩ := r.get hd
      refine ⟨⟨xs, x, .of e2, hx⟩, fun v H3 y => ?_⟩
      obtain ⟨rfl, y⟩ := y
      have := y xs (.of e2)
      rw [hx] at this
      cases this
      exact ⟨Same.refl _, B, rx.keep f (fun a ha => (nomatch sx.subset ha)), (fun a ha => (nomatch sx.subset ha))⟩
  | lst ds =>
    obtain ⟨p1, p2, p3, p4, p5⟩ := p
    cases p4 with
    | @lst a xs _ F e1 r =>
      refine ⟨a, rfl, .inl ⟨⟨xs, .of e1⟩, k _ H1 W1 ds ρ1 ⟨p1, p2, p3⟩ (fun i H2 W2 f => ?_) q⟩⟩
      have nW : ∀ b ∈ a :: F, ¬ wz o W1 b := fun b hb hw => by
        obtain ⟨h1, h2⟩ := hw
        exact ((p5 h1).2 b hb).2 h2
      have e2 : H2 a = some (.lst xs) := f.keep _ _ e1 (nW a List.mem_cons_self)
      refine ⟨fun hi => ⟨xs, .of e2, by rw [r.length]; exact hi⟩, fun d hd => ?_⟩
      obtain ⟨x, B, hx, rx, sx⟩ := r.get hd
      refine ⟨⟨xs, x, .of e2, hx⟩, fun v H3 y => ?_⟩
      obtain ⟨rfl, y⟩ := y
      have := y xs (.of e2)
      rw [hx] at this
      cases this
      refine ⟨Same.refl _, B, rx.keep f fun b hb => nW b (List.mem_cons_of_mem _ (sx.subset hb)), fun b hb hw => ?_⟩
      have hb' : b ∈ a :: F := List.mem_cons_of_mem _ (sx.subset hb)
      rcases f.new b hw with h | h
      · exact nW b hb' h
      · obtain ⟨ob, e3, _⟩ := rx.dom b hb
        rw [h] at e3; cases e3
  | _ => exact q.elim
def wSeqK (w : WE) : WL := fun ρ Q => w ρ fun d ρ' => match d with
  | .kls ds => Q ds ρ'
  | _ => False
def rngD (lo : Int) (n : Nat) : List D := (List.range n).map fun (i : Nat) => .int (lo + (i : Int))
theorem jd_range {K : PySem.W.Frag} {H : Hp} {W : Addr → Prop} {lo : Int} {n : Nat} : JD K (Itr lo n) H W (rngD lo n) := by
  intro i H1 W1 f
  have hl : (rngD lo n).length = n := by simp [rngD]
  refine ⟨fun h => by rw [hl] at h; exact h, fun d hd => ?_⟩
  have hi : i < n := by have := (List.getElem?_eq_some_iff.mp hd).1; rwa [hl] at this
  have hd' : d = .int (lo + (i : Int)) := by
    simp only [rngD, List.getElem?_map, List.getElem?_range hi, Option.map_some, Option.some.injEq] at hd
    exact hd.symm
  refine ⟨hi, fun v H2 y => ?_⟩
  obtain ⟨rfl, rfl⟩ := y
  exact ⟨Same.refl _, [], by rw [hd']; exact .int _, fun a m => nomatch m⟩
def wRng1 (wr : WA) : WL := fun ρ Q => wr ρ fun ds ρ' => match ds with
  | [.int j] => -(2 ^ 62) ≤ j ∧ j < 2 ^ 62 ∧ Q (rngD 0 j.toNat) ρ'
  | _ => False
theorem iv_range1 (hm : X.mg "range" = none) (ha : AV X T m o [a] wr) (hg : Gl X "range" := by rfl) (hs : starEach [a] X.env = [(false, eval a X.env)] := by rfl) : IV X T m true tg (.Call (.Name "range" p) [a] [] pos) (wRng1 wr) := by
  obtain ⟨ta, pa, ga⟩ := ha
  refine ⟨_, pi_range1 hg hm pa hs, fun z R σ H W ρ Q RR s hw k => ?_⟩
  refine ga z R σ H W ρ _ _ s hw fun vs H1 W1 ds ρ1 F p q => ?_
  match ds, p, q with
  | [.int j], p, q =>
    obtain ⟨v, rfl, rd⟩ := p.rep.at1
    cases rd
    exact ⟨j, rfl, q.1, q.2.1, k _ H1 W1 _ ρ1 ⟨p.sr, p.fr, p.calm⟩ jd_range q.2.2⟩
def wRng2 (wr : WA) : WL := fun ρ Q => wr ρ fun ds ρ' => match ds with
  | [.int i, .int j] => (-(2 ^ 62) ≤ i ∧ i < 2 ^ 62 ∧ -(2 ^ 62) ≤ j ∧ j < 2 ^ 62) ∧ Q (rngD i (j - i).toNat) ρ'
  | _ => False
def enumD : Nat → List D → List D
  | _, [] => []
  | n, d :: r => .tup [.int (n : Int), d] :: enumD (n + 1) r
def wEnum (wr : WA) : WL := fun ρ Q => wr ρ fun ds ρ' => match ds with
  | [.tup es] => pureL es = true ∧ Q (enumD 0 es) ρ'
  | _ => False
end
end PV
set_option Elab.async false
set_option linter.all false
set_option maxRecDepth 100000
set_option maxHeartbeats 4000000
namespace PV
open PySem PySem.Spec L2
structure EndsP where
  nx : Env → Prop
  rt : D → Env → Prop
  bk : Env → Prop := fun _ => False
  ct : Env → Prop := fun _ => False
abbrev WS := EndsP → Env → Prop
structure Lk (K : PySem.W.Frag) (T : Tg) (z : Nat → V) (H : Hp) (W : Addr → Prop) (P : EndsP) (E : Ends) : Prop where
  nx : ∀ R σ' H' W' ρ', SR K T z R H' W' σ' ρ' → FrW H W H' W' → P.nx ρ' → E.nx σ' H'
  bk : ∀ R σ' H' W' ρ', SR K T z R H' W' σ' ρ' → FrW H W H' W' → P.bk ρ' → E.bk σ' H'
  ct : ∀ R σ' H' W' ρ', SR K T z R H' W' σ' ρ' → FrW H W H' W' → P.ct ρ' → E.ct σ' H'
  rt : ∀ R v σ' H' W' ρ' d F, SR K T z R H' W' σ' ρ' → FrW H W H' W' → Rep K H' d v F → F.Nodup → (∀ a ∈ F, ¬ W' a ∧ (W a ∨ H a = none)) → P.rt d ρ' → E.rt v H'
theorem Lk.step {K : PySem.W.Frag} {T : Tg} {z : Nat → V} {H H1 : Hp} {W W1 : Addr → Prop} {P : EndsP} {E : Ends} (l : Lk K T z H W P E) (f : FrW H W H1 W1) : Lk K T z H1 W1 P E where
  nx := fun R σ' H' W' ρ' s g q => l.nx R σ' H' W' ρ' s (f.trans g) q
  bk := fun R σ' H' W' ρ' s g q => l.bk R σ' H' W' ρ' s (f.trans g) q
  ct := fun R σ' H' W' ρ' s g q => l.ct R σ' H' W' ρ' s (f.trans g) q
  rt := fun R v σ' H' W' ρ' d F s g r nd k q => l.rt R v σ' H' W' ρ' d F s (f.trans g) r nd (fun a ha => ⟨(k a ha).1, by
    rcases (k a ha).2 with h | h
    · exact f.new a h
    · exact .inr (f.dom a h)⟩) q
def SV (X : Cx) (T : Tg) (st : Stmt) (w : WS) : Prop :=
  ∃ ts, PS X st ts ∧ ∀ (z : Nat → V) (R : Addr → Prop) (σ : St) (H : Hp) (W : Addr → Prop) (ρ : Env) (P : EndsP) (E : Ends), SR X.K T z R H W σ ρ → w P ρ → Lk X.K T z H W P E → ts E σ H
def SVs (X : Cx) (T : Tg) (st : List Stmt) (w : WS) : Prop :=
  ∃ ts, PSs X st ts ∧ ∀ (z : Nat → V) (R : Addr → Prop) (σ : St) (H : Hp) (W : Addr → Prop) (ρ : Env) (P : EndsP) (E : Ends), SR X.K T z R H W σ ρ → w P ρ → Lk X.K T z H W P E → ts E σ H
section
variable {X : Cx} {T : Tg} {m o m0 m1 m2 m3 o1 o2 : Bool} {e a b : Expr} {w wa wb : WE} {pos p2 p : Pos} {es : List Expr} {wr : WA} {x : Str} {st : Stmt} {rest : List Stmt} {ws wu : WS} {wt : WT}
def wNext : WS := fun P ρ => P.nx ρ
def wSeq (w u : WS) : WS := fun P ρ => w { P with nx := u P } ρ
theorem svs_nil : SVs X T [] wNext := ⟨_, pss_nil, fun z R σ H W ρ P E s hw l => l.nx R σ H W ρ s (FrW.refl H W) hw⟩
theorem svs_one (h : SV X T st ws) : SVs X T [st] ws := by
  obtain ⟨t, pt, g⟩ := h
  exact ⟨_, pss_one pt, g⟩
theorem svs_cons (h : SV X T st ws) (hr : SVs X T rest wu) : SVs X T (st :: rest) (wSeq ws wu) := by
  obtain ⟨t, pt, g⟩ := h
  obtain ⟨u, pu, gu⟩ := hr
  refine ⟨_, pss_cons pt pu, fun z R σ H W ρ P E s hw l => g z R σ H W ρ _ _ s hw ⟨fun R' σ' H' W' ρ' s' f q => gu z R' σ' H' W' ρ' P E s' q (l.step f), l.bk, l.ct, l.rt⟩⟩
def wDrop (w : WE) : WS := fun P ρ => w ρ fun _ ρ' => P.nx ρ'
theorem sv_expr (he : EV X T m o e w) (hs : swapsWith e none pos.line X.env = pure false := by rfl) : SV X T (.Expr e pos) (wDrop w) := by
  obtain ⟨te, pe, ge⟩ := he
  exact ⟨_, ps_expr pe hs, fun z R σ H W ρ P E s hw l => ge z R σ H W ρ _ _ s hw fun v H1 W1 d ρ1 F p q => l.nx R σ H1 W1 ρ1 p.sr p.fr q⟩
def wRet (w : WE) : WS := fun P ρ => w ρ fun d ρ' => P.rt d ρ'
theorem sv_ret (he : EV X T m true e w) : SV X T (.Return (some e) pos) (wRet w) := by
  obtain ⟨te, pe, ge⟩ := he
  exact ⟨_, ps_ret pe, fun z R σ H W ρ P E s hw l => ge z R σ H W ρ _ _ s hw fun v H1 W1 d ρ1 F p q => l.rt R v σ H1 W1 ρ1 d F p.sr p.fr p.rep (p.own rfl).1 (fun a ha => ⟨((p.own rfl).2 a ha).2, .inr ((p.own rfl).2 a ha).1⟩) q⟩
theorem sv_retN : SV X T (.Return none pos) (fun P ρ => P.rt .non ρ) :=
  ⟨_, ps_retN, fun z R σ H W ρ P E s hw l => l.rt R .non σ H W ρ .non [] s (FrW.refl H W) .non List.nodup_nil (fun a m => nomatch m) hw⟩
def wRetS (i : Nat) : WS := fun P ρ => oget (look ρ i) fun d => P.rt d (ρ.set i none)
theorem sv_retS {i : Nat} (ht : T.own i = true := by rfl) (hN : X.N[i]? = some x := by rfl) (hv : Vis X.env.scope x := by first | exact Or.inl rfl | exact Or.inr (Or.inl rfl) | exact Or.inr (Or.inr rfl)) (hd : (x == ("__debug__" : Str)) = false := by decide)
    (hcd : (x == ("__classdict__" : Str)) = false := by decide) : SV X T (.Return (some (.Name x p)) pos) (wRetS i) := by
  refine ⟨_, ps_ret (pe_var hN hv hd hcd), fun z R σ H W ρ P E s hw l => ?_⟩
  obtain ⟨d, hl, q⟩ := oget_some hw
  obtain ⟨fp, s0⟩ := s
  obtain ⟨v, h1, h2⟩ := s0.at_ i d hl
  have key : ∀ j e, look (ρ.set i none) j = some e → j ≠ i ∧ look ρ j = some e := fun j e h => by
    rw [look_set] at h
    split at h
    · cases h
    · refine ⟨fun z => ?_, h⟩
      subst z
      rename_i hn
      exact hn ⟨rfl, look_lt hl⟩
  refine ⟨v, h1, l.rt R v σ H (fun a => W a ∧ a ∉ fp i) (ρ.set i none) d (fp i) ⟨fp, ?_⟩ ?_ h2 (s0.own i d hl ht).1 (fun a ha => ⟨fun h => h.2 ha, .inl ((s0.own i d hl ht).2 a ha)⟩) q⟩
  · refine ⟨by rw [List.length_set]; exact s0.len, fun a h => s0.wd a h.1, fun j e h => s0.at_ j e (key j e h).2, fun j e h t => ⟨(s0.own j e (key j e h).2 t).1, fun a ha => ⟨(s0.own j e (key j e h).2 t).2 a ha, fun ha' => s0.dis j i e d (key j e h).2 hl t ht (key j e h).1 a ha ha'⟩⟩,
      fun j e h t => s0.ro j e (key j e h).2 t, fun a h => s0.wr a h.1, s0.rd, fun j k e e' h h' t t' => s0.dis j k e e' (key j e h).2 (key k e' h').2 t t', s0.fix⟩
  · exact ⟨fun b ob e _ => e, fun b e => e, fun b ob e _ => e, fun b h => .inl h.1⟩
theorem SR0.bind {K : PySem.W.Frag} {z : Nat → V} {R : Addr → Prop} {H : Hp} {W : Addr → Prop} {σ : St} {ρ : Env} {fp : Nat → List Addr} {i : Nat} {d : D} {v : V} {F : List Addr} (s : SR0 K T z R H W σ ρ fp) (hio : i ∉ T.io) (r : Rep K H d v F) (nd : F.Nodup) (nw : ∀ a ∈ F, ¬ W a ∧ ¬ R a) :
    ∃ R', SR K T z R' H (fun a => W a ∨ (T.own i = true ∧ a ∈ F)) (σ.set i (some v)) (ρ.set i (some d)) := by
  refine ⟨fun a => R a ∨ (T.own i = false ∧ a ∈ F), fun j => if j = i then F else fp j, ?_, ?_, ?_, ?_, ?_, ?_, ?_, ?_, ?_⟩
  · rw [List.length_set, List.length_set]; exact s.len
  · intro a ha
    rcases ha with ha | ⟨_, ha⟩
    · exact s.wd a ha
    · exact r.dom a ha
  · intro j e hj
    rw [look_set] at hj
    split at hj
    · rename_i h
      obtain ⟨rfl, hlt⟩ := h
      cases hj
      exact ⟨v, by rw [List.getElem?_set_self (by rw [← s.len]; exact hlt)], by rw [if_pos rfl]; exact r⟩
    · rename_i h
      obtain ⟨u, h1, h2⟩ := s.at_ j e hj
      have hji : j ≠ i := fun z => h ⟨z, by rw [← z]; exact look_lt hj⟩
      exact ⟨u, by rw [List.getElem?_set_ne (Ne.symm hji)]; exact h1, by rw [if_neg hji]; exact h2⟩
  · intro j e hj hto
    by_cases hji : j = i
    · subst hji; simp only [if_pos]; exact ⟨nd, fun a h => .inr ⟨hto, h⟩⟩
    · rw [look_set_ne hji] at hj
      simp only [if_neg hji]
      exact ⟨(s.own j e hj hto).1, fun a h => .inl ((s.own j e hj hto).2 a h)⟩
  · intro j e hj hto
    by_cases hji : j = i
    · subst hji; simp only [if_pos]; exact fun a h => .inr ⟨hto, h⟩
    · rw [look_set_ne hji] at hj
      simp only [if_neg hji]
      exact fun a h => .inl (s.ro j e hj hto a h)
  · intro a ha hr
    rcases ha with ha | ⟨t, ha⟩
    · rcases hr with hr | ⟨_, hr⟩
      · exact s.wr a ha hr
      · exact (nw a hr).1 ha
    · rcases hr with hr | ⟨t', hr⟩
      · exact (nw a ha).2 hr
      · rw [t] at t'; cases t'
  · intro a hr
    rcases hr with hr | ⟨_, hr⟩
    · exact s.rd a hr
    · exact r.dom a hr
  · intro j k e e' hj hk tj tk hne a ha ha'
    by_cases hji : j = i
    · subst hji
      have hkj : k ≠ j := fun z => hne z.symm
      rw [look_set_ne hkj] at hk
      simp only [if_pos, if_neg hkj] at ha ha'
      exact (nw a ha).1 ((s.own k e' hk tk).2 a ha')
    · rw [look_set_ne hji] at hj
      simp only [if_neg hji] at ha
      by_cases hki : k = i
      · subst hki
        simp only [if_pos] at ha'
        exact (nw a ha').1 ((s.own j e hj tj).2 a ha)
      · rw [look_set_ne hki] at hk
        simp only [if_neg hki] at ha'
        exact s.dis j k e e' hj hk tj tk hne a ha ha'
  · intro j hj
    have hji : j ≠ i := fun z => hio (z ▸ hj)
    rw [List.getElem?_set_ne (Ne.symm hji)]
    exact s.fix j hj
def wSet (i : Nat) (w : WE) : WS := fun P ρ => w ρ fun d ρ' => P.nx (ρ'.set i (some d))
theorem frw_more {H H' : Hp} {W W' : Addr → Prop} {G : Addr → Prop} (f : FrW H W H' W') (n : ∀ a, G a → H a = none) : FrW H W H' (fun a => W' a ∨ G a) :=
  ⟨f.keep, f.dom, f.imm, fun b h => h.elim (f.new b) fun h => .inr (n b h)⟩
theorem sv_set {i : Nat} {pos' : Pos} (he : EV X T m true e w) (hN : X.N.Nodup) (hi : X.N[i]? = some x := by rfl) (hio : i ∉ T.io := by decide) (hx : Loc X.env.scope x := by first | exact Or.inl rfl | exact Or.inr rfl) (hs : swapsWith e (some (.Name x pos')) pos.line X.env = pure false := by rfl)
    (hf : X.fn x = true ∨ X.env.scope.names.lookup x = some .local := by first | exact .inl rfl | exact .inr rfl | assumption) : SV X T (.Assign [.Name x pos'] e pos) (wSet i w) := by
  obtain ⟨te, pe, ge⟩ := he
  refine ⟨_, ps_set hN hi hx pe hs hf, fun z R σ H W ρ P E s hw l => ge z R σ H W ρ _ _ s hw fun v H1 W1 d ρ1 F p q => ?_⟩
  obtain ⟨fp, s1⟩ := p.sr
  obtain ⟨nd, nw⟩ := p.own rfl
  obtain ⟨R', s2⟩ := s1.bind (i := i) hio p.rep nd (fun a ha => ⟨(nw a ha).2, s.nr (nw a ha).1⟩)
  exact l.nx R' _ H1 _ _ s2 (frw_more p.fr fun a h => (nw a h.2).1) q
theorem sv_setC {i : Nat} {pos' : Pos} (he : ∃ te, PS X (.Assign [.Name x pos'] e pos) (tAsg te (gName i)) ∧ ∀ (z : Nat → V) (R : Addr → Prop) (σ : St) (H : Hp) (W : Addr → Prop) (ρ : Env) (Q : D → Env → Prop) (Q' : VK), SR X.K T z R H W σ ρ → w ρ Q →
    (∀ v H' W' d ρ' F, Post X.K T z R m true H W σ ρ H' W' ρ' d v F → Q d ρ' → Q' v H') → te σ H Q') (hio : i ∉ T.io := by decide) : SV X T (.Assign [.Name x pos'] e pos) (wSet i w) := by
  obtain ⟨te, pe, ge⟩ := he
  refine ⟨_, pe, fun z R σ H W ρ P E s hw l => ge z R σ H W ρ _ _ s hw fun v H1 W1 d ρ1 F p q => ?_⟩
  obtain ⟨fp, s1⟩ := p.sr
  obtain ⟨nd, nw⟩ := p.own rfl
  obtain ⟨R', s2⟩ := s1.bind (i := i) hio p.rep nd (fun a ha => ⟨(nw a ha).2, s.nr (nw a ha).1⟩)
  exact l.nx R' _ H1 _ _ s2 (frw_more p.fr fun a h => (nw a h.2).1) q
abbrev WG := D → Env → (Env → Prop) → Prop
def GV (X : Cx) (T : Tg) (tg : Expr) (wg : WG) : Prop :=
  ∃ t, PG X tg t ∧ ∀ (z : Nat → V) (R : Addr → Prop) (σ : St) (H : Hp) (W : Addr → Prop) (ρ : Env) (d : D) (v : V) (Q : Env → Prop) (Q' : St → Hp → Prop), SR X.K T z R H W σ ρ → Rep X.K H d v [] → d.pure = true → wg d ρ Q →
    (∀ R' W' σ' ρ', SR X.K T z R' H W' σ' ρ' → FrW H W H W' → Q ρ' → Q' σ' H) → t v σ H Q'
def GVs (X : Cx) (T : Tg) (tgs : List Expr) (wg : List D → Env → (Env → Prop) → Prop) : Prop :=
  ∃ t, PGs X tgs t ∧ ∀ (z : Nat → V) (R : Addr → Prop) (σ : St) (H : Hp) (W : Addr → Prop) (ρ : Env) (ds : List D) (vs : List V) (Q : Env → Prop) (Q' : St → Hp → Prop), SR X.K T z R H W σ ρ → Reps X.K H ds vs [] → pureL ds = true → wg ds ρ Q →
    (∀ R' W' σ' ρ', SR X.K T z R' H W' σ' ρ' → FrW H W H W' → Q ρ' → Q' σ' H) → t vs σ H Q'
def gN (i : Nat) : WG := fun d ρ Q => Q (ρ.set i (some d))
theorem gv_name {i : Nat} (hN : X.N.Nodup) (hi : X.N[i]? = some x := by rfl) (hio : i ∉ T.io := by decide) (hx : Loc X.env.scope x := by first | exact Or.inl rfl | exact Or.inr rfl) (hf : X.fn x = true ∨ X.env.scope.names.lookup x = some .local := by first | exact .inl rfl | exact .inr rfl | assumption) : GV X T (.Name x pos) (gN i) := by
  refine ⟨_, pg_name hN hi hx hf, fun z R σ H W ρ d v Q Q' s r hp hw k => ?_⟩
  obtain ⟨fp, s1⟩ := s
  obtain ⟨R', s2⟩ := s1.bind (i := i) hio r List.nodup_nil (fun a ha => nomatch ha)
  exact k R' _ _ _ s2 (frw_more (FrW.refl H W) fun a h => nomatch h.2) hw
def gNilD : List D → Env → (Env → Prop) → Prop
  | [], ρ, Q => Q ρ
  | _, _, _ => False
def gConsD (wg : WG) (wgs : List D → Env → (Env → Prop) → Prop) : List D → Env → (Env → Prop) → Prop
  | d :: r, ρ, Q => wg d ρ fun ρ' => wgs r ρ' Q
  | _, _, _ => False
theorem Reps.inv {K : PySem.W.Frag} {H : Hp} {d : D} {ds : List D} {vs : List V} {F : List Addr} (r : Reps K H (d :: ds) vs F) : ∃ v us F1 F2, vs = v :: us ∧ Rep K H d v F1 ∧ Reps K H ds us F2 := by
  cases r with
  | cons h r => exact ⟨_, _, _, _, rfl, h, r⟩
theorem gvs_nil : GVs X T [] gNilD := by
  refine ⟨_, pgs_nil, fun z R σ H W ρ ds vs Q Q' s r hp hw k => ?_⟩
  cases ds with
  | nil => cases r; exact ⟨rfl, k R W σ ρ s (FrW.refl H W) hw⟩
  | cons => exact hw.elim
theorem gvs_cons {wg : WG} {wgs : List D → Env → (Env → Prop) → Prop} (h : GV X T e wg) (hr : GVs X T es wgs) (hs : (assignEach (e :: es) X.env).map (·.2) = assign e X.env :: (assignEach es X.env).map (·.2) := by rfl) : GVs X T (e :: es) (gConsD wg wgs) := by
  obtain ⟨t, pt, g⟩ := h
  obtain ⟨u, pu, gu⟩ := hr
  refine ⟨_, pgs_cons pt pu hs, fun z R σ H W ρ ds vs Q Q' s r hp hw k => ?_⟩
  cases ds with
  | nil => exact hw.elim
  | cons d ds =>
    obtain ⟨v, vs, F, G, rfl, r1, r2⟩ := r.inv
    simp only [pureL, Bool.and_eq_true] at hp
    obtain ⟨e1, r1⟩ := r1.pure hp.1
    obtain ⟨e2, r2⟩ := r2.pure hp.2
    refine ⟨v, vs, rfl, g z R σ H W ρ d v _ _ s r1 hp.1 hw fun R' W' σ' ρ' s' f q => ?_⟩
    exact gu z R' σ' H W' ρ' ds vs Q Q' s' r2 hp.2 q fun R2 W2 σ2 ρ2 s2 f2 q2 => k R2 W2 σ2 ρ2 s2 (f.trans f2) q2
def gTupD (n : Nat) (wgs : List D → Env → (Env → Prop) → Prop) : WG := fun d ρ Q => match d with
  | .tup ds => ds.length = n ∧ wgs ds ρ Q
  | _ => False
theorem gv_tup {kt : Nat} {n : Nat} {wgs : List D → Env → (Env → Prop) → Prop} (h : GVs X T es wgs) (hc : X.calm = true := by rfl) (hn : (assignEach es X.env).length = n := by rfl) (hst : (assignEach es X.env).findIdx? (·.1) = none := by rfl) : GV X T (.Tuple es kt pos) (gTupD n wgs) := by
  obtain ⟨t, pt, g⟩ := h
  refine ⟨_, pg_tup hc pt hn hst, fun z R σ H W ρ d v Q Q' s r hp hw k => ?_⟩
  cases d with
  | tup ds =>
    cases r with
    | @tup a xs _ _ e1 r => exact ⟨a, xs, rfl, .of e1, by rw [r.length]; exact hw.1, g z R σ H W ρ ds xs Q Q' s r (by simpa [D.pure] using hp) hw.2 k⟩
  | _ => exact hw.elim
def wAsg (w : WE) (wg : WG) : WS := fun P ρ => w ρ fun d ρ' => d.pure = true ∧ wg d ρ' P.nx
def dSet : D → D → D → (D → Prop) → Prop
  | .lst xs, .int j, d, k => oget (ixN xs.length j) fun n => k (.lst (xs.set n d))
  | .dik kvs, .int j, d, k => kvs.length < sizeLine ∧ k (.dik (putD kvs (.inl j) d))
  | .dik kvs, .str j, d, k => kvs.length < sizeLine ∧ k (.dik (putD kvs (.inr j) d))
  | .dit kvs, .tup l, d, k => kvs.length < sizeLine ∧ oget (keysOf l) fun ks => k (.dit (putD kvs ks d))
  | _, _, _, _ => False
theorem set_dict (hu : X.A.units + 1 < cLine) : PSet X (fun o i v H Q => ∃ a H', o = .ref a ∧ DPut H a i v H' ∧ Q H') := by
  intro pins s σ H o i v ov iv u Q I ro ri rv h
  obtain ⟨a, H', rfl, g, q⟩ := h
  cases ro
  exact d_setItem hu I g ri rv fun s' I' => ⟨H', I', q⟩
theorem PSet.or {t u : TSet} (h : PSet X t) (h' : PSet X u) : PSet X (fun o i v H Q => t o i v H Q ∨ u o i v H Q) := by
  intro pins s σ H o i v ov iv u Q I ro ri rv q
  rcases q with q | q
  · exact h pins s σ H o i v ov iv u Q I ro ri rv q
  · exact h' pins s σ H o i v ov iv u Q I ro ri rv q
def wSetIx (i : Nat) (wv wi : WE) : WS := fun P ρ => wv ρ fun d ρ1 => d.pure = true ∧ (look ρ1 i).isSome = true ∧ wi ρ1 fun c ρ2 => oget (look ρ2 i) fun s => dSet s c d fun s' => P.nx (ρ2.set i (some s'))
theorem sv_setIx {i : Nat} {v ix : Expr} {wv wi : WE} {px ps' : Pos} (hu : X.A.units + 1 < cLine) (hv : EV X T m1 o1 v wv) (hi : EV X T m2 o2 ix wi) (ht : T.own i = true := by rfl) (hN : X.N[i]? = some x := by rfl)
    (hvis : Vis X.env.scope x := by first | exact Or.inl rfl | exact Or.inr (Or.inl rfl) | exact Or.inr (Or.inr rfl)) (hd : (x == ("__debug__" : Str)) = false := by decide) (hcd : (x == ("__classdict__" : Str)) = false := by decide)
    (ha : ∀ v, assign (.Subscript (.Name x px) ix ps') X.env v = (do
      let ov ← holding [v] (eval (.Name x px) X.env)
      let iv ← holding [v, ov] (eval ix X.env)
      standAt ps'
      holding [v, ov, iv] (setItem ov iv v)
      release [v, ov, iv] []) := by intro _; rfl) (hs : swapsWithSole [.Subscript (.Name x px) ix ps'] v pos.line X.env = pure false := by rfl) (hw : swappedStores [.Subscript (.Name x px) ix ps'] v X.env = pure none := by rfl)
    (h1 : (assignEach [.Subscript (.Name x px) ix ps'] X.env).map (·.2) = [assign (.Subscript (.Name x px) ix ps') X.env] := by rfl) : SV X T (.Assign [.Subscript (.Name x px) ix ps'] v pos) (wSetIx i wv wi) := by
  obtain ⟨tv, pv, gv⟩ := hv
  obtain ⟨ti, pi, gi⟩ := hi
  refine ⟨_, ps_asg pv (pg_sub (pe_var hN hvis hd hcd) pi (PSet.or set_list (set_dict hu)) ha) hs hw h1, fun z R σ H W ρ P E s hw l => ?_⟩
  refine gv z R σ H W ρ _ _ s hw fun v1 H1 W1 d ρ1 F1 p ⟨hp, hso, q⟩ => ?_
  obtain ⟨-, rv⟩ := p.rep.pure hp
  obtain ⟨d0, hl0⟩ := Option.isSome_iff_exists.mp hso
  obtain ⟨fp0, s0⟩ := id p.sr
  obtain ⟨u, hu', _⟩ := s0.at_ i d0 hl0
  refine ⟨u, hu', gi z R σ H1 W1 ρ1 _ _ p.sr q fun v2 H2 W2 c ρ2 F2 p2 q2 => ?_⟩
  obtain ⟨d1, hl, q2⟩ := oget_some q2
  obtain ⟨fp, s2⟩ := id p2.sr
  obtain ⟨u', hu2, ru⟩ := s2.at_ i d1 hl
  have : u' = u := by rw [hu'] at hu2; cases hu2; rfl
  subst this
  have rv2 : Rep X.K H2 d v1 [] := rv.keep p2.fr fun a m => nomatch m
  obtain ⟨nd, sw⟩ := s2.own i d1 hl ht
  have fin : ∀ (lad : Addr) (ob : HO) (d' : D) (F' : List Addr), lad ∈ fp i → imm ob = false → Rep X.K (upd H2 lad ob) d' u' F' → F'.Nodup → (∀ a ∈ F', a ∈ fp i) → P.nx (ρ2.set i (some d')) → E.nx σ (upd H2 lad ob) := fun lad ob d' F' hm him r' nd' sub hq => by
    have hW := sw lad hm
    exact l.nx R σ _ _ _ (s2.write hl ht hu2 hm upd_keep ⟨ob, upd_same, him⟩ r' nd' fun a ha => .inl (sub a ha)) ((p.fr.trans p2.fr).write hW (s2.wd lad hW) upd_keep ⟨ob, upd_same, him⟩ fun a ha => .inl (sw a (sub a ha))) hq
  have nilnot : ∀ a : Addr, a ∉ ([] : List Addr) := fun a h => nomatch h
  generalize hF : fp i = F at *
  cases ru with
  | @lst a xs ds G e r =>
    cases c with
    | int j =>
      obtain ⟨n, hn, hq⟩ := oget_some q2
      have rc := rep_int p2.rep
      subst rc
      have hlt := (ixN_seq hn).2.1
      obtain ⟨dn, hdn⟩ : ∃ dn, ds[n]? = some dn := ⟨ds[n], List.getElem?_eq_getElem hlt⟩
      obtain ⟨y, A, B, C, hy, hG, rB, rA, rC⟩ := r.split hdn
      obtain ⟨na, ndG⟩ := List.nodup_cons.mp nd
      have sub := sub3 hG
      have nAC : a ∉ A ++ C := fun h => na (sub.subset h)
      have hxl : n < xs.length := by rw [r.length]; exact hlt
      refine .inl ⟨a, xs, j, n, rfl, rfl, e, by rw [r.length]; exact hn, ?_⟩
      refine fin a _ _ (a :: (A ++ C)) List.mem_cons_self rfl (.lst upd_same ?_) (List.nodup_cons.mpr ⟨nAC, ndG.sublist sub⟩) (fun b hb => ?_) hq
      · rw [take_set_drop hlt, take_set_drop hxl]
        have := (rA.upd (ob' := .lst (xs.take n ++ v1 :: xs.drop (n + 1))) e rfl (fun h => nAC (List.mem_append.mpr (.inl h)))).append (.cons (rv2.upd e rfl (nilnot a)) (rC.upd e rfl fun h => nAC (List.mem_append.mpr (.inr h))))
        simpa using this
      · rcases List.mem_cons.mp hb with rfl | hb
        · exact List.mem_cons_self
        · exact List.mem_cons_of_mem _ (sub.subset hb)
    | _ => exact (show False from q2).elim
  | @dik a kvs ds G e r =>
    obtain ⟨na, ndG⟩ := List.nodup_cons.mp nd
    have go : ∀ key : Key, v2 = kV key → ds.length < sizeLine → P.nx (ρ2.set i (some (.dik (putD ds key d)))) → rSetL (.ref a) v2 v1 H2 (fun H3 => E.nx σ H3) ∨ ∃ a' H', V.ref a = .ref a' ∧ DPut H2 a' v2 v1 H' ∧ E.nx σ H' := fun key ek hz hq => by
      obtain ⟨G', rp, sub⟩ := (r.upd (ob' := .dK (putK kvs key v1)) e rfl na).put (k := key) (rv2.upd e rfl (nilnot a))
      subst ek
      refine .inr ⟨a, _, rfl, DPut.k (k := key) e (by rw [r.length]; exact hz), ?_⟩
      refine fin a _ _ (a :: G') List.mem_cons_self rfl (.dik upd_same rp) (List.nodup_cons.mpr ⟨fun h => na (sub.subset h), ndG.sublist sub⟩) (fun b hb => ?_) hq
      rcases List.mem_cons.mp hb with rfl | hb
      · exact List.mem_cons_self
      · exact List.mem_cons_of_mem _ (sub.subset hb)
    cases c with
    | int j => exact go (.inl j) (rep_int p2.rep) q2.1 q2.2
    | str j => exact go (.inr j) (by cases p2.rep; rfl) q2.1 q2.2
    | _ => exact (show False from q2).elim
  | @dit a kvs ds G e r =>
    obtain ⟨na, ndG⟩ := List.nodup_cons.mp nd
    cases c with
    | tup l' =>
      obtain ⟨hz, q2⟩ := q2
      obtain ⟨ks, hk, hq⟩ := oget_some q2
      cases hrep : p2.rep with
      | @tup b ys _ _ e2 r2 =>
        have hx := r2.keys hk
        subst hx
        obtain ⟨G', rp, sub⟩ := (r.upd (ob' := .dT (putK kvs ks v1)) e rfl na).put (k := ks) (rv2.upd e rfl (nilnot a))
        refine .inr ⟨a, _, rfl, DPut.t (k := ks) e e2 (by rw [r.length]; exact hz), ?_⟩
        refine fin a _ _ (a :: G') List.mem_cons_self rfl (.dit upd_same rp) (List.nodup_cons.mpr ⟨fun h => na (sub.subset h), ndG.sublist sub⟩) (fun b hb => ?_) hq
        rcases List.mem_cons.mp hb with rfl | hb
        · exact List.mem_cons_self
        · exact List.mem_cons_of_mem _ (sub.subset hb)
    | _ => exact (show False from q2).elim
  | _ => exact (show False from by cases c <;> exact q2).elim
def wIf (wt : WT) (w u : WS) : WS := fun P ρ => wt ρ fun b ρ' => if b = true then w P ρ' else u P ρ'
theorem sv_if {c : Expr} {sa sb : List Stmt} (hc : TV X T m c wt) (ha : SVs X T sa ws) (hb : SVs X T sb wu) : SV X T (.If c sa sb pos) (wIf wt ws wu) := by
  obtain ⟨tc, pc, gc⟩ := hc
  obtain ⟨ta, pa, ga⟩ := ha
  obtain ⟨tb, pb, gb⟩ := hb
  refine ⟨_, ps_if pc pa pb, fun z R σ H W ρ P E s hw l => gc z R σ H W ρ _ _ s hw fun b H1 W1 ρ1 p q => ?_⟩
  cases b with
  | true => exact ga z R σ H1 W1 ρ1 P E p.sr q (l.step p.fr)
  | false => exact gb z R σ H1 W1 ρ1 P E p.sr q (l.step p.fr)
def wFor (wl : WL) (wg : WG) (wb : WS) : WS := fun P ρ => wl ρ fun ds ρ1 => pureL ds = true ∧ ∃ I : Nat → Env → Prop, I 0 ρ1 ∧
  (∀ i d ρ, ds[i]? = some d → I i ρ → wg d ρ fun ρ' => wb { P with nx := I (i + 1), ct := I (i + 1), bk := P.nx } ρ') ∧ ∀ ρ, I ds.length ρ → P.nx ρ
theorem wz_true (W : Addr → Prop) : wz true W = W := by funext a; simp [wz]
theorem sv_for {tg iter : Expr} {body : List Stmt} {wl : WL} {wg : WG} (hp : PassesOwn (model X.prog X.w) X.A X.env X.xe) (hi : IV X T m true tg iter wl) (hg : GV X T tg wg) (hb : SVs X T body ws) (hc : X.calm = true := by rfl)
    (hs : ∀ x, foldedSetIterable iter X.env x = pure x := by intro _; rfl) : SV X T (.For tg iter body [] pos) (wFor wl wg ws) := by
  obtain ⟨ti, pi, gi⟩ := hi
  obtain ⟨tt, pt, gt⟩ := hg
  obtain ⟨tb, pb, gb⟩ := hb
  refine ⟨_, ps_for hp hc pi pt pb hs, fun z R σ H W ρ P E s hw l => gi z R σ H W ρ _ _ s hw fun J H1 W1 ds ρ1 p jd q => ?_⟩
  rw [wz_true] at jd
  obtain ⟨hpu, I, h0, hI, hd⟩ := q
  refine ⟨fun i n σ' H' => n = ds.length - i ∧ i ≤ ds.length ∧ ∃ R' W' ρ', SR X.K T z R' H' W' σ' ρ' ∧ FrW H1 W1 H' W' ∧ I i ρ', ⟨ds.length, by simp, Nat.zero_le _, R, W1, ρ1, p.sr, FrW.refl _ _, h0⟩, ?_⟩
  rintro i n σ2 H2 ⟨rfl, hi, R2, W2, ρ2, s2, f2, i2⟩
  obtain ⟨j1, j2⟩ := jd i H2 W2 f2
  by_cases hlt : i < ds.length
  · have hdi : ds[i]? = some ds[i] := List.getElem?_eq_getElem hlt
    obtain ⟨hgo, hy⟩ := j2 _ hdi
    have hpd : (ds[i]).pure = true := pureL_iff.mp hpu _ (List.getElem_mem hlt)
    refine .inr ⟨hgo, fun σ' H' => i + 1 ≤ ds.length ∧ ∃ R' W' ρ', SR X.K T z R' H' W' σ' ρ' ∧ FrW H1 W1 H' W' ∧ I (i + 1) ρ', fun σ' H' ⟨h1, h2⟩ => ⟨ds.length - (i + 1), by omega, rfl, h1, h2⟩, fun v H3 yl => ?_⟩
    obtain ⟨sm, F, rv, _⟩ := hy v H3 yl
    obtain ⟨-, rv⟩ := rv.pure hpd
    have f3 : FrW H1 W1 H3 W2 := f2.trans (FrW.same W2 sm)
    refine gt z R2 σ2 H3 W2 ρ2 _ v _ _ (s2.same sm) rv hpd (hI i _ ρ2 hdi i2) fun R4 W4 σ4 ρ4 s4 f4 q4 => ?_
    refine gb z R4 σ4 H3 W4 ρ4 _ _ s4 q4 ⟨?_, ?_, ?_, ?_⟩
    · exact fun R' σ' H' W' ρ' s' f' h => ⟨hlt, R', W', ρ', s', (f3.trans f4).trans f', h⟩
    · exact fun R' σ' H' W' ρ' s' f' h => l.nx R' σ' H' W' ρ' s' (((p.fr.trans f3).trans f4).trans f') h
    · exact fun R' σ' H' W' ρ' s' f' h => ⟨hlt, R', W', ρ', s', (f3.trans f4).trans f', h⟩
    · exact (((l.step p.fr).step f3).step f4).rt
  · have e : i = ds.length := by omega
    subst e
    exact .inl ⟨j1 (Nat.le_refl _), l.nx R2 σ2 H2 W2 ρ2 s2 (p.fr.trans f2) (hd ρ2 i2)⟩
end
end PV
set_option Elab.async false
set_option linter.all false
set_option maxRecDepth 100000
set_option maxHeartbeats 4000000
namespace PV
open PySem PySem.Spec L2
open PyProof.Rows (envOfC)
def TR : Tg := ⟨fun _ => false, []⟩
def Any (H : Hp) : Addr → Prop := fun a => ∃ ob, H a = some ob ∧ imm ob = false
theorem SR.readonly {K : PySem.W.Frag} {T : Tg} {z : Nat → V} {H : Hp} {σ : St} {ρ : Env} (hio : T.io = []) (hlen : ρ.length = σ.length) (h : ∀ i d, look ρ i = some d → T.own i = false ∧ ∃ v F, σ[i]? = some (some v) ∧ Rep K H d v F) :
    SR K T z (Any H) H (fun _ => False) σ ρ := by
  have ch : ∀ i, ∃ F, ∀ d, look ρ i = some d → ∃ v, σ[i]? = some (some v) ∧ Rep K H d v F := fun i => by
    cases hl : look ρ i with
    | none => exact ⟨[], fun d e => nomatch e⟩
    | some d =>
      obtain ⟨_, v, F, h1, h2⟩ := h i d hl
      exact ⟨F, fun d' e => by cases e; exact ⟨v, h1, h2⟩⟩
  refine ⟨fun i => Classical.choose (ch i), hlen, fun a h => h.elim, fun i d hl => Classical.choose_spec (ch i) d hl, fun i d hl ht => ?_, fun i d hl ht a ha => ?_, fun a h => h.elim, fun a h => h, fun i j d e hl hl' ht => ?_, fun i hi => ?_⟩
  · rw [(h i d hl).1] at ht; cases ht
  · obtain ⟨v, _, r⟩ := Classical.choose_spec (ch i) d hl
    exact r.dom a ha
  · rw [(h i d hl).1] at ht; cases ht
  · rw [hio] at hi; cases hi
theorem look_start : ∀ {ds : List D} {n i : Nat}, look (ds.map some ++ List.replicate n none) i = ds[i]?
  | [], 0, i => by simp [look]
  | [], n + 1, 0 => by simp [look, List.replicate_succ]
  | [], n + 1, i + 1 => by
    have := look_start (ds := []) (n := n) (i := i)
    simpa [look, List.replicate_succ] using this
  | d :: ds, n, 0 => by simp [look]
  | d :: ds, n, i + 1 => by
    have := look_start (ds := ds) (n := n) (i := i)
    simpa [look] using this
theorem start_get {N : List Str} {vs : List V} {i : Nat} {v : V} (h : vs[i]? = some v) : (L2.start N vs)[i]? = some (some v) := by
  have hi := (List.getElem?_eq_some_iff.mp h).1
  unfold L2.start
  rw [List.getElem?_append_left (by simpa using hi), List.getElem?_map, h]
  rfl
section
variable {P : Program} {w : World} {K : PySem.W.Frag} {mg : Str → Option Value} {base : Heap} {x qual : Str} {st : Stmt} {f : Addr} {fd : FuncData} {N ps : List Str} {k : Nat} {T : Tg} {ww : WS}
def env0 (N : List Str) (ds : List D) : Env := ds.map some ++ List.replicate (N.length - ds.length) none
theorem fn_ro {g : GA} (F : Fun K x qual st f fd) (S : FnScope N ps (defScope st)) (hio : T.io = []) (hown : ∀ i, i < ps.length → T.own i = false) (hg : ∀ ds kk, g ds kk → ds.length = ps.length)
    (hb : ∀ (cdv : Value) (A : Around) (outer : List PySem.Env) (s : Shared) (H : Hp) (E : XK), Room k (A.deeper (envOfC qual (defScope st) s.heap.objs.size f cdv)) → SVs (cxOf CX0 P w K mg base N qual (defScope st) f cdv A outer s H E).nox T (defBody st) ww)
    (hr : ∀ ds kk, g ds kk → ww { nx := fun _ => kk .non, rt := fun d _ => kk d } (env0 N ds)) : FnOk P w K mg base CX0 (k + 1) f fd ps (spR K g) := by
  refine F.ok S (fun vs H Q E h => ?_) (fun cdv A outer s H vs Q E hroom h => ?_)
  · obtain ⟨ds, Fp, kk, rep, hgk, _⟩ := h
    rw [rep.length]; exact hg ds kk hgk
  · obtain ⟨ds, Fp, kk, rep, hgk, q⟩ := h
    obtain ⟨ts, pts, gts⟩ := hb cdv A outer s H E hroom
    have hl := rep.length
    have hds := hg ds kk hgk
    refine ⟨ts, pts, gts (fun _ => .non) (Any H) (L2.start N vs) H (fun _ => False) (env0 N ds) _ _ (SR.readonly hio ?_ fun i d hli => ?_) (hr ds kk hgk) ⟨?_, ?_, ?_, ?_⟩⟩
    · unfold env0 L2.start; simp [hl]
    · unfold env0 at hli
      rw [look_start] at hli
      obtain ⟨v, B, h1, h2, _⟩ := rep.get hli
      exact ⟨hown i (by rw [← hds]; exact (List.getElem?_eq_some_iff.mp hli).1), v, B, start_get h1, h2⟩
    · intro R' σ' H' W' ρ' s' fr hk
      have sm : Same H H' := fun b o e => fr.keep b o e (fun z => z)
      exact q .non H' .non [] ⟨sm, .non, List.nodup_nil, fun _ m => nomatch m⟩ hk
    · exact fun R' σ' H' W' ρ' s' fr hk => hk.elim
    · exact fun R' σ' H' W' ρ' s' fr hk => hk.elim
    · intro R' v σ' H' W' ρ' d F' s' fr r nd nw hk
      have sm : Same H H' := fun b o e => fr.keep b o e (fun z => z)
      exact q v H' d F' ⟨sm, r, nd, fun a ha => (nw a ha).2.resolve_left id⟩ hk
theorem fn_io {p : Nat} {g : GI} (F : Fun K x qual st f fd) (S : FnScope N ps (defScope st)) (hio : T.io = [p]) (hown : T.own p = true) (hg : ∀ ds kk, g ds kk → ds.length = ps.length ∧ ∃ d0, ds[p]? = some d0 ∧ flatD d0 = true)
    (hb : ∀ (cdv : Value) (A : Around) (outer : List PySem.Env) (s : Shared) (H : Hp) (E : XK), Room k (A.deeper (envOfC qual (defScope st) s.heap.objs.size f cdv)) → SVs (cxOf CX0 P w K mg base N qual (defScope st) f cdv A outer s H E).nox T (defBody st) ww)
    (hr : ∀ ds kk, g ds kk → ww { nx := fun ρ => oget (look ρ p) fun d' => flatD d' = true ∧ kk .non d', rt := fun d ρ => oget (look ρ p) fun d' => flatD d' = true ∧ kk d d' } (env0 N ds)) : FnOk P w K mg base CX0 (k + 1) f fd ps (spI K p g) := by
  refine F.ok S (fun vs H Q E h => ?_) (fun cdv A outer s H vs Q E hroom h => ?_)
  · obtain ⟨ds, a, kk, rep, hp, hgk, _⟩ := h
    rw [rep.length]; exact (hg ds kk hgk).1
  · obtain ⟨ds, a, kk, rep, hp, hgk, q⟩ := h
    obtain ⟨ts, pts, gts⟩ := hb cdv A outer s H E hroom
    have hl := rep.length
    obtain ⟨hds, d0, hd0, hf0⟩ := hg ds kk hgk
    obtain ⟨v0, A', B, C, h1, h2, r0, rA, rC⟩ := rep.split hd0
    rw [hp] at h1; cases h1
    obtain ⟨a', e1, e2⟩ := r0.flat1 hf0
    cases e1
    subst e2
    have hA : A' = [] := by
      cases A' with
      | nil => rfl
      | cons y A' => simp at h2
    subst hA
    have hC : C = [] := by
      cases C with
      | nil => rfl
      | cons y C => simp at h2
    subst hC
    have oth : ∀ i d, i ≠ p → ds[i]? = some d → ∃ v, vs[i]? = some v ∧ Rep K H d v [] := fun i d hne hd => by
      rcases Nat.lt_or_gt_of_ne hne with h | h
      · obtain ⟨v, B, h1, h2, h3⟩ := rA.get (i := i) (by rw [List.getElem?_take_of_lt h]; exact hd)
        rw [List.getElem?_take_of_lt h] at h1
        have := List.sublist_nil.mp h3
        subst this
        exact ⟨v, h1, h2⟩
      · obtain ⟨v, B, h1, h2, h3⟩ := rC.get (i := i - (p + 1)) (by rw [List.getElem?_drop, show p + 1 + (i - (p + 1)) = i by omega]; exact hd)
        rw [List.getElem?_drop, show p + 1 + (i - (p + 1)) = i by omega] at h1
        have := List.sublist_nil.mp h3
        subst this
        exact ⟨v, h1, h2⟩
    obtain ⟨oa, ea, ia⟩ := r0.dom a (List.mem_singleton.mpr rfl)
    have fin : ∀ R' v σ' H' W' ρ' d F', SR K T (fun _ => .ref a) R' H' W' σ' ρ' → FrW H (fun b => b = a) H' W' → Rep K H' d v F' → F'.Nodup → (∀ b ∈ F', ¬ W' b ∧ (b = a ∨ H b = none)) → (oget (look ρ' p) fun d' => flatD d' = true ∧ kk d d') → Q v H' := fun R' v σ' H' W' ρ' d F' s' fr r nd nw hk => by
      obtain ⟨d', hl', hf', hk⟩ := oget_some hk
      obtain ⟨fp, s0⟩ := s'
      obtain ⟨u, hu, ru⟩ := s0.at_ p d' hl'
      have hfx := s0.fix p (by rw [hio]; exact List.mem_singleton.mpr rfl)
      rw [hu] at hfx
      cases hfx
      obtain ⟨a'', e1, e2⟩ := ru.flat1 hf'
      cases e1
      rw [e2] at ru
      have hWa : W' a := (s0.own p d' hl' hown).2 a (by rw [e2]; exact List.mem_singleton.mpr rfl)
      refine q v H' d d' F' ru r nd (fun b hb => ?_) (fun b o e hne => fr.keep b o e hne) hk
      rcases (nw b hb).2 with h | h
      · exact absurd hWa (by rw [← h]; exact (nw b hb).1)
      · exact h
    refine ⟨ts, pts, gts (fun _ => .ref a) (fun b => b ≠ a ∧ Any H b) (L2.start N vs) H (fun b => b = a) (env0 N ds) _ _ ⟨fun i => if i = p then [a] else [], ?_, ?_, ?_, ?_, ?_, ?_, ?_, ?_, ?_⟩ (hr ds kk hgk) ⟨?_, ?_, ?_, ?_⟩⟩
    · unfold env0 L2.start; simp [hl]
    · rintro b rfl; exact ⟨oa, ea, ia⟩
    · intro i d hli
      unfold env0 at hli
      rw [look_start] at hli
      by_cases hip : i = p
      · subst hip
        rw [hd0] at hli; cases hli
        exact ⟨.ref a, start_get hp, by rw [if_pos rfl]; exact r0⟩
      · obtain ⟨v, h1, h2⟩ := oth i d hip hli
        exact ⟨v, start_get h1, by rw [if_neg hip]; exact h2⟩
    · intro i d _ _
      by_cases hip : i = p
      · rw [if_pos hip]; exact ⟨by simp, fun b hb => List.mem_singleton.mp hb⟩
      · rw [if_neg hip]; exact ⟨by simp, fun b hb => nomatch hb⟩
    · intro i d _ ht b hb
      have hip : i ≠ p := fun z => by subst z; rw [hown] at ht; cases ht
      rw [if_neg hip] at hb; cases hb
    · rintro b rfl ⟨h, _⟩; exact h rfl
    · exact fun b h => h.2
    · intro i j d e _ _ _ _ hne b hb hb'
      by_cases hip : i = p
      · have hjp : j ≠ p := fun z => hne (hip.trans z.symm)
        rw [if_neg hjp] at hb'; cases hb'
      · rw [if_neg hip] at hb; cases hb
    · intro i hi
      rw [hio] at hi
      rw [List.mem_singleton.mp hi]
      exact start_get hp
    · exact fun R' σ' H' W' ρ' s' fr hk => fin R' .non σ' H' W' ρ' .non [] s' fr .non List.nodup_nil (fun b hb => nomatch hb) hk
    · exact fun R' σ' H' W' ρ' s' fr hk => hk.elim
    · exact fun R' σ' H' W' ρ' s' fr hk => hk.elim
    · exact fun R' v σ' H' W' ρ' d F' s' fr r nd nw hk => fin R' v σ' H' W' ρ' d F' s' fr r nd nw hk
end
section
variable {X : Cx} {T : Tg} {m o m0 m1 m2 m3 o1 o2 : Bool} {e a b : Expr} {w wa wb we : WE} {pos p2 p : Pos} {es : List Expr} {wr : WA} {x : Str} {wt : WT}
def CV (X : Cx) (ifs : List Expr) (w : WT) : Prop :=
  ∃ tt, PIfs X ifs tt ∧ ∀ (z : Nat → V) (R : Addr → Prop) (σ : St) (H : Hp) (W : Addr → Prop) (ρ : Env) (Q : Bool → Env → Prop) (Q' : Bool → Hp → Prop), SR X.K TR z R H W σ ρ → w ρ Q →
    (∀ b H' W' ρ', PostT X.K TR z R false H W σ ρ H' W' ρ' → Q b ρ' → Q' b H') → tt σ H Q'
def wAll : WT := fun ρ Q => Q true ρ
theorem cv_nil : CV X [] wAll := ⟨_, pifs_nil, fun z R σ H W ρ Q Q' s hw k => k true H W ρ ⟨s, FrW.refl H W, fun _ => ⟨Same.refl H, rfl, rfl⟩⟩ hw⟩
theorem cv_one {c : Expr} (h : TV X TR false c wt) : CV X [c] wt := by
  obtain ⟨tt, pt, g⟩ := h
  exact ⟨_, pifs_one pt, g⟩
def blkE (ρ : Env) (d : D) (ix : List Nat) : Env := some d :: ix.map (look ρ)
theorem look_map {f : Nat → Option D} : ∀ {ix : List Nat} {j : Nat}, look (ix.map f) j = ix[j]?.bind f
  | [], _ => by simp [look]
  | i :: r, 0 => by simp [look]
  | i :: r, j + 1 => by simpa [look] using look_map (f := f) (ix := r) (j := j)
def wComp (wl : WL) (wt : WT) (we : WE) (ix : List Nat) : WE := fun ρ Q => wl ρ fun ds ρ1 => ∃ I : Nat → List D → Prop, I 0 [] ∧
  (∀ i d ys, ds[i]? = some d → I i ys → ys.length < sizeLine ∧ wt (blkE ρ1 d ix) fun b _ => if b = true then we (blkE ρ1 d ix) (fun y _ => I (i + 1) (ys ++ [y])) else I (i + 1) ys) ∧
  ∀ ys, I ds.length ys → ys.length ≤ sizeLine ∧ Q (.lst ys) ρ1
def CompOk (X : Cx) (T : Tg) (m : Bool) (elt iter : Expr) (x : Str) (px : Pos) (scope : Scope) (ifs : List Expr) (ix : List Nat) (w : WE) : Prop :=
  ∃ (wi : TI) (tt : TT) (te : TE), PI X (.Name x px) iter wi ∧ (∀ cl C s₀ H₀ fp, PIfs (cxBlk X scope cl C (bN X.N x ix) s₀ H₀ fp) ifs tt) ∧ (∀ cl C s₀ H₀ fp, PE (cxBlk X scope cl C (bN X.N x ix) s₀ H₀ fp) elt te) ∧
    ∀ (z : Nat → V) (R : Addr → Prop) (σ : St) (H : Hp) (W : Addr → Prop) (ρ : Env) (Q : D → Env → Prop) (Q' : VK), SR X.K T z R H W σ ρ → w ρ Q →
      (∀ v H' W' d ρ' F, Post X.K T z R m true H W σ ρ H' W' ρ' d v F → Q d ρ' → Q' v H') → tComp wi tt te ix σ H Q'
theorem comp_ok {elt iter : Expr} {px : Pos} {scope : Scope} {ifs : List Expr} {wl : WL} {pr : Bool} (ix : List Nat) (hi : IV X T m pr (.Name x px) iter wl)
    (ht : ∀ cl C s₀ H₀ fp, CV (cxBlk X scope cl C (bN X.N x ix) s₀ H₀ fp) ifs wt) (he : ∀ cl C s₀ H₀ fp, EV (cxBlk X scope cl C (bN X.N x ix) s₀ H₀ fp) TR false true elt we) :
    CompOk X T m elt iter x px scope ifs ix (wComp wl wt we ix) := by
  obtain ⟨wi, pi, gi⟩ := hi
  refine ⟨wi, fun σ H Q => ∀ cl C s₀ H₀ fp, Classical.choose (ht cl C s₀ H₀ fp) σ H Q, fun σ H Q => ∀ cl C s₀ H₀ fp, Classical.choose (he cl C s₀ H₀ fp) σ H Q, pi,
    fun cl C s₀ H₀ fp pins s σ H Q I h => (Classical.choose_spec (ht cl C s₀ H₀ fp)).1 pins s σ H Q I (h cl C s₀ H₀ fp), fun cl C s₀ H₀ fp pins s σ H Q I h => (Classical.choose_spec (he cl C s₀ H₀ fp)).1 pins s σ H Q I (h cl C s₀ H₀ fp), ?_⟩
  intro z R σ H W ρ Q Q' s hw k
  refine gi z R σ H W ρ _ _ s hw fun J H1 W1 ds ρ1 p jd q => ?_
  obtain ⟨I, h0, hI, hd⟩ := q
  refine ⟨fun i n ys H2 => n = ds.length - i ∧ i ≤ ds.length ∧ Same H1 H2 ∧ ∃ es F, Reps X.K H2 es ys F ∧ F.Nodup ∧ (∀ a ∈ F, H1 a = none) ∧ I i es, ds.length, ⟨by simp, Nat.zero_le _, Same.refl _, [], [], .nil, List.nodup_nil, (fun a m => (nomatch m)), h0⟩, ?_⟩
  rintro i n ys H2 ⟨rfl, hi, sm, es, F, re, nd, nw, i2⟩
  obtain ⟨j1, j2⟩ := jd i H2 (wz pr W1) (FrW.same _ sm)
  by_cases hlt : i < ds.length
  · have hdi : ds[i]? = some ds[i] := List.getElem?_eq_getElem hlt
    obtain ⟨hgo, hy⟩ := j2 _ hdi
    obtain ⟨hz, q1⟩ := hI i _ es hdi i2
    refine .inr ⟨hgo, by rw [re.length]; exact hz, fun v H3 yl => ?_⟩
    obtain ⟨sm3, Fv, rv, _⟩ := hy v H3 yl
    have srB : ∀ z', SR X.K TR z' (Any H3) H3 (fun _ => False) (bS σ (some v) ix) (blkE ρ1 ds[i] ix) := fun z' => by
      refine SR.readonly rfl (by simp [bS, blkE]) fun j d hj => ⟨rfl, ?_⟩
      cases j with
      | zero =>
        simp only [blkE, look, Option.some.injEq] at hj
        subst hj
        exact ⟨v, Fv, rfl, rv⟩
      | succ j =>
        have hj' : look (ix.map (look ρ1)) j = some d := hj
        rw [look_map] at hj'
        cases hx : ix[j]? with
        | none => rw [hx] at hj'; cases hj'
        | some q =>
          rw [hx] at hj'
          obtain ⟨fp, s1⟩ := (p.sr.same sm).same sm3
          obtain ⟨u, hu, ru⟩ := s1.at_ q d hj'
          refine ⟨u, fp q, ?_, ru⟩
          show (ix.map fun i => (σ[i]?).getD none)[j]? = some (some u)
          rw [List.getElem?_map, hx]
          simp [hu]
    intro cl C s₀ H₀ fp
    refine (Classical.choose_spec (ht cl C s₀ H₀ fp)).2 (fun _ => .non) (Any H3) (bS σ (some v) ix) H3 (fun _ => False) (blkE ρ1 ds[i] ix) _ _ (srB _) q1 fun bb H4 W4 ρ4 p4 q4 => ?_
    obtain ⟨sm4, hW4, hρ4⟩ := p4.calm rfl
    have re4 := ((re.same sm3).same sm4)
    cases bb with
    | false => exact ⟨ds.length - (i + 1), by omega, rfl, hlt, (sm.trans sm3).trans sm4, es, F, re4, nd, nw, q4⟩
    | true =>
      show if true = true then _ else _
      rw [if_pos rfl]
      intro cl C s₀ H₀ fp
      refine (Classical.choose_spec (he cl C s₀ H₀ fp)).2 (fun _ => .non) (Any H3) (bS σ (some v) ix) H4 W4 (blkE ρ1 ds[i] ix) _ _ (hρ4 ▸ p4.sr) (by simpa using q4) fun u H5 W5 y ρ5 Fy p5 q5 => ?_
      obtain ⟨sm5, _, _⟩ := p5.calm rfl
      obtain ⟨ny, ky⟩ := p5.own rfl
      have sm15 : Same H1 H5 := ((sm.trans sm3).trans sm4).trans sm5
      refine ⟨ds.length - (i + 1), by omega, rfl, hlt, sm15, es ++ [y], F ++ Fy, (re4.same sm5).snoc p5.rep, nodup_ins nd ny fun a ha hf => ?_, fun a ha => ?_, q5⟩
      · obtain ⟨ob, e1, _⟩ := re4.dom a hf
        rw [(ky a ha).1] at e1; cases e1
      · rcases List.mem_append.mp ha with ha | ha
        · exact nw a ha
        · exact ((sm.trans sm3).trans sm4).free (ky a ha).1
  · have e : i = ds.length := by omega
    subst e
    obtain ⟨hz, q1⟩ := hd es i2
    refine .inl ⟨j1 (Nat.le_refl _), by rw [re.length]; exact hz, fun l hl => ?_⟩
    have hl1 : H1 l = none := sm.free hl
    refine k _ _ W1 (.lst es) ρ1 (l :: F) ⟨(p.sr.same sm).same (same_upd hl), (p.fr.trans (FrW.same W1 sm)).trans (FrW.same W1 (same_upd hl)), fun h => ⟨((p.calm h).1.trans sm).trans (same_upd hl), (p.calm h).2⟩, .lst upd_same (re.same (same_upd hl)), fun _ => ⟨List.nodup_cons.mpr ⟨fun h => ?_, nd⟩, fun b hb => ?_⟩⟩ q1
    · obtain ⟨ob, e1, _⟩ := re.dom l h
      rw [hl] at e1; cases e1
    · rcases List.mem_cons.mp hb with rfl | hb
      · exact ⟨p.fr.dom _ hl1, p.sr.nw hl1⟩
      · exact ⟨p.fr.dom _ (nw b hb), p.sr.nw (nw b hb)⟩
theorem ev_comp {elt iter : Expr} {px : Pos} {scope : Scope} {ifs : List Expr} {ix : List Nat} (h : CompOk X T m elt iter x px scope ifs ix w) (B : BlkScope X.env scope x)
    (hix : ∀ i ∈ ix, ∃ y, X.N[i]? = some y ∧ scope.names.lookup y = some .free) (hN : (bN X.N x ix).Nodup) (hc : X.calm = true := by rfl)
    (hs : ∀ x, foldedSetIterable iter X.env x = pure x := by intro _; rfl) : EV X T m true (.ListComp elt [⟨.Name x px, iter, ifs, 0⟩] scope pos) w := by
  obtain ⟨wi, tt, te, h1, h2, h3, h4⟩ := h
  exact ⟨_, pe_comp ix hc B hix hN h1 h2 h3 hs, h4⟩
end
end PV
set_option Elab.async false
set_option linter.all false
set_option maxRecDepth 100000
set_option maxHeartbeats 4000000
namespace PV
open PySem PySem.Spec L2
section
variable {X : Cx} {T : Tg} {m o m0 m1 m2 m3 o1 o2 : Bool} {e a b : Expr} {w wa wb we : WE} {pos p2 p : Pos} {es : List Expr} {wr : WA} {x : Str} {wt : WT}
abbrev WO := Env → (Option Int → Env → Prop) → Prop
def OV (X : Cx) (T : Tg) (m : Bool) (e : Option Expr) (w : WO) : Prop :=
  ∃ t, PO X e t ∧ ∀ (z : Nat → V) (R : Addr → Prop) (σ : St) (H : Hp) (W : Addr → Prop) (ρ : Env) (Q : Option Int → Env → Prop) (Q' : Option Int → Hp → Prop), SR X.K T z R H W σ ρ → w ρ Q →
    (∀ b H' W' ρ', PostT X.K T z R m H W σ ρ H' W' ρ' → Q b ρ' → Q' b H') → t σ H Q'
def wNone : WO := fun ρ Q => Q none ρ
def wSome (w : WE) : WO := fun ρ Q => w ρ fun d ρ' => match d with
  | .int i => Q (some i) ρ'
  | _ => False
theorem ov_none : OV X T false none wNone := ⟨_, po_none, fun z R σ H W ρ Q Q' s hw k => k none H W ρ ⟨s, FrW.refl H W, fun _ => ⟨Same.refl H, rfl, rfl⟩⟩ hw⟩
theorem ov_some (h : EV X T m o e w) : OV X T m (some e) (wSome w) := by
  obtain ⟨t, pt, g⟩ := h
  refine ⟨_, po_some pt, fun z R σ H W ρ Q Q' s hw k => g z R σ H W ρ _ _ s hw fun v H1 W1 d ρ1 F p q => ?_⟩
  cases d with
  | int i => exact ⟨i, rep_int p.rep, k (some i) H1 W1 ρ1 ⟨p.sr, p.fr, p.calm⟩ q⟩
  | _ => exact q.elim
def cutD (xs : List D) (lo hi : Option Int) : List D := (xs.drop (HT.sIx xs.length 0 lo)).take (HT.sIx xs.length xs.length hi - HT.sIx xs.length 0 lo)
def dSl : D → Option Int → Option Int → (D → Prop) → Prop
  | .lst xs, lo, hi, k => pureL xs = true ∧ k (.lst (cutD xs lo hi))
  | .kls xs, lo, hi, k => pureL xs = true ∧ k (.lst (cutD xs lo hi))
  | .tup xs, lo, hi, k => pureL xs = true ∧ ¬ (HT.sIx xs.length 0 lo = 0 ∧ HT.sIx xs.length xs.length hi = xs.length) ∧ k (.tup (cutD xs lo hi))
  | _, _, _, _ => False
theorem Reps.cut {K : PySem.W.Frag} {H : Hp} {ds : List D} {xs : List V} {lo hi : Option Int} (r : Reps K H ds xs []) : Reps K H (cutD ds lo hi) (cutV xs lo hi) [] := by
  unfold cutD cutV
  rw [r.length]
  obtain ⟨G, r1, s1⟩ := r.drop (HT.sIx ds.length 0 lo)
  obtain ⟨G', r2, s2⟩ := r1.take (HT.sIx ds.length ds.length hi - HT.sIx ds.length 0 lo)
  have := List.sublist_nil.mp s1
  subst this
  have := List.sublist_nil.mp s2
  subst this
  exact r2
theorem sl_any : SlR X (fun x lo hi H Q => rSlL X.K x lo hi H Q ∨ rSlT X.K x lo hi H Q) := SlR.or sl_list sl_tup
def wSl (w : WE) (wl wh : WO) : WE := fun ρ Q => w ρ fun d ρ1 => wl ρ1 fun lo ρ2 => wh ρ2 fun hi ρ3 => dSl d lo hi fun d' => Q d' ρ3
def dRange : GA
  | [.int j], k => 0 ≤ j ∧ j ≤ 1000 ∧ k (.lst (rngD 0 j.toNat))
  | _, _ => False
def dGet2 : D → D → D → (D → Prop) → Prop
  | .dik kvs, .int i, d, k => k ((valD kvs (.inl i)).getD d)
  | .dik kvs, .str i, d, k => k ((valD kvs (.inr i)).getD d)
  | .dit kvs, .tup l, d, k => oget (keysOf l) fun ks => k ((valD kvs ks).getD d)
  | _, _, _, _ => False
def wVals (w : WE) : WL := fun ρ Q => w ρ fun d ρ' => match d with
  | .dik kvs => Q (kvs.map (·.2)) ρ'
  | _ => False
theorem RepK.get {K : PySem.W.Frag} {H : Hp} : ∀ {ds : List (Key × D)} {xs : List (Key × V)} {F : List Addr} {i : Nat} {k : Key} {v : V}, RepK K H ds xs F → xs[i]? = some (k, v) → ∃ d B, ds[i]? = some (k, d) ∧ Rep K H d v B ∧ B.Sublist F
  | [], _, _, _, _, _, r, h => by cases r; simp at h
  | d :: ds, _, _, i, _, _, r, h => by
    cases r with
    | @cons j d v _ vs F G p r =>
      cases i with
      | zero =>
        simp at h
        obtain ⟨rfl, rfl⟩ := h
        exact ⟨d, F, rfl, p, List.sublist_append_left _ _⟩
      | succ i =>
        obtain ⟨d', B, h1, h2, h3⟩ := RepK.get r (i := i) (by simpa using h)
        exact ⟨d', B, by simpa using h1, h2, h3.trans (List.sublist_append_right _ _)⟩
def wForR (wl : WL) (i₀ : Nat) (wb : WS) : WS := fun P ρ => wl ρ fun ds ρ1 => ∃ I : Nat → Env → Prop, I 0 ρ1 ∧
  (∀ i d ρ, ds[i]? = some d → I i ρ → wb { P with nx := I (i + 1), ct := I (i + 1), bk := P.nx } (ρ.set i₀ (some d))) ∧ ∀ ρ, I ds.length ρ → P.nx ρ
end
end PV
set_option Elab.async false
set_option linter.all false
set_option maxRecDepth 100000
set_option maxHeartbeats 4000000
namespace PV
open PySem PySem.Spec L2
section
variable {κ : Type} [DecidableEq κ]
theorem putD_ne {j k : κ} {d y : D} {r : List (κ × D)} (h : ¬ j = k) : putD ((j, d) :: r) k y = (j, d) :: putD r k y := by
  unfold putD
  by_cases q : (r.any fun kv => decide (kv.1 = k)) = true
  · rw [if_pos (by rw [List.any_cons, q]; simp), if_pos q, List.map_cons, if_neg h]
  · rw [if_neg (by rw [List.any_cons]; simp only [h, decide_false, Bool.false_or]; exact q), if_neg q]; rfl
theorem map_none {k : κ} {y : D} : ∀ {r : List (κ × D)}, k ∉ r.map (·.1) → (r.map fun kv => if kv.1 = k then (kv.1, y) else kv) = r
  | [], _ => rfl
  | p :: r, h => by
    simp only [List.map_cons, List.mem_cons, not_or] at h
    rw [List.map_cons, if_neg (fun z => h.1 z.symm), map_none h.2]
theorem putD_hd {k : κ} {d y : D} {r : List (κ × D)} (h : k ∉ r.map (·.1)) : putD ((k, d) :: r) k y = (k, y) :: r := by
  unfold putD
  rw [if_pos (by rw [List.any_cons]; simp), List.map_cons, if_pos rfl, map_none h]
end
section
variable {K : PySem.W.Frag} {H : Hp}
end
section
variable {X : Cx} {T : Tg} {m o m0 m1 m2 m3 o1 o2 : Bool} {e a b : Expr} {w wa wb we : WE} {pos p2 p : Pos} {es : List Expr} {wr : WA} {x : Str} {wt : WT}
def keyOf : D → Option Key
  | .int i => some (.inl i)
  | .str i => some (.inr i)
  | _ => none
theorem Rep.key {K : PySem.W.Frag} {H : Hp} {d : D} {v : V} {F : List Addr} {k : Key} (r : Rep K H d v F) (h : keyOf d = some k) : v = kV k := by
  cases r <;> simp [keyOf] at h <;> subst h <;> rfl
end
end PV
set_option Elab.async false
set_option linter.all false
set_option maxRecDepth 100000
set_option maxHeartbeats 4000000
namespace PV
open PySem PySem.Spec L2
section
variable {X : Cx} {T : Tg} {m o m0 m1 m2 m3 o1 o2 : Bool} {e a b : Expr} {w wa wb we : WE} {pos p2 p : Pos} {es : List Expr} {wr : WA} {x : Str} {wt : WT}
abbrev tupI (k : List Int) : D := .tup (k.map .int)
theorem Reps.tups {K : PySem.W.Frag} {H : Hp} : ∀ {keys : List (List Int)} {ys : List V} {F : List Addr}, Reps K H (keys.map tupI) ys F → F = [] ∧ ∃ as : List Addr, ys = as.map V.ref ∧ as.length = keys.length ∧ ∀ (i : Nat) k, keys[i]? = some k → ∃ a, as[i]? = some a ∧ H a = some (.tup (k.map V.int))
  | [], _, _, r => by cases r; exact ⟨rfl, [], rfl, rfl, fun i k h => by simp at h⟩
  | k :: keys, _, _, r => by
    cases r with
    | cons p r =>
      obtain ⟨hF, as, h1, h2, h3⟩ := Reps.tups r
      cases p with
      | @tup a xs _ F e q =>
        obtain ⟨h4, h5⟩ := q.of_ints
        subst h4 h5 h1
        refine ⟨by rw [hF]; rfl, a :: as, rfl, by simp [h2], fun i k' hk => ?_⟩
        cases i with
        | zero => simp at hk; subst hk; exact ⟨a, rfl, e⟩
        | succ i => simpa using h3 i k' (by simpa using hk)
def wAndV (wa wb : WE) : WE := fun ρ Q => wa ρ fun d ρ1 => match d with
  | .bl c => if c = true then wb ρ1 Q else Q (.bl false) ρ1
  | _ => False
def wOrV (wa wb : WE) : WE := fun ρ Q => wa ρ fun d ρ1 => match d with
  | .bl c => if c = true then Q (.bl true) ρ1 else wb ρ1 Q
  | _ => False
variable {rest : List Expr}
theorem Post.after {K : PySem.W.Frag} {z : Nat → V} {R : Addr → Prop} {H H1 H2 : Hp} {W W1 W2 : Addr → Prop} {σ : St} {ρ ρ1 ρ2 : Env} {d1 d2 : D} {v1 v2 : V} {F1 F2 : List Addr} (p : Post K T z R m1 o1 H W σ ρ H1 W1 ρ1 d1 v1 F1) (q : Post K T z R m2 o2 H1 W1 σ ρ1 H2 W2 ρ2 d2 v2 F2) :
    Post K T z R (m1 || m2) o2 H W σ ρ H2 W2 ρ2 d2 v2 F2 := ⟨q.sr, p.fr.trans q.fr, p.calm2 q, q.rep, p.lastOwn q⟩
def wNotV (wa : WE) : WE := fun ρ Q => wa ρ fun d ρ1 => match d with
  | .bl c => Q (.bl (!c)) ρ1
  | _ => False
end
end PV
set_option Elab.async false
set_option linter.all false
set_option maxRecDepth 100000
set_option maxHeartbeats 4000000
namespace PV
open PySem PySem.Spec L2
theorem bt_sorted : bootBuiltins "sorted" = some (.builtin "sorted") := by decide +kernel
theorem bt_isinstance : bootBuiltins "isinstance" = some (.builtin "isinstance") := by decide +kernel
theorem bt_min : bootBuiltins "min" = some (.builtin "min") := by decide +kernel
theorem bt_len : bootBuiltins "len" = some (.builtin "len") := by decide +kernel
theorem bt_int : bootBuiltins "int" = some (.type "int") := by decide +kernel
theorem bt_bool : bootBuiltins "bool" = some (.type "bool") := by decide +kernel
theorem bt_list : bootBuiltins "list" = some (.type "list") := by decide +kernel
theorem bt_tuple : bootBuiltins "tuple" = some (.type "tuple") := by decide +kernel
def wLift (w : WE) : WE := fun ρ Q => w ρ fun d ρ' => d.pure = true ∧ Q d ρ'
def Cal (P : Program) (w : World) (K : PySem.W.Frag) (mg : Str → Option Value) (base : Heap) (x : Str) (k : Nat) (ps : List Str) (sp : Sp) : Prop :=
  ∃ f fd, FnOk P w K mg base CX0 k f fd ps sp ∧ mg x = some (.ref f) ∧ PySem.W.keepIn K (.ref f) = true ∧ Binds K fd ps []
section
variable {X : Cx} {T : Tg} {m o m0 m1 m2 m3 o1 o2 : Bool} {e a b : Expr} {w wa wb we : WE} {pos p2 p : Pos} {es : List Expr} {wr : WA} {x : Str} {wt : WT} {k j : Nat} {ps : List Str}
theorem ev_lift (h : EV X T m o e w) : EV X T m true e (wLift w) := h.lift
theorem ev_callC {g : GA} (C : Cal X.prog X.w X.K X.mg X.base x k ps (spR X.K g)) (hr : Room k X.A) (ha : AV X T m o (e :: es) wr) (hg : Gl X x := by rfl)
    (hdb : (x == ("__debug__" : Str)) = false := by decide) (he : starEach (e :: es) X.env = (false, eval e X.env) :: starEach es X.env := by rfl) (hpl : (backTo pos (starEach es X.env)).any (·.1) = false := by rfl) :
    EV X T m true (.Call (.Name x p) (e :: es) [] pos) (wCall g wr) := by
  obtain ⟨f, fd, F, h1, h2, h3⟩ := C
  exact ev_call F hr h1 h2 h3 ha hg hdb he hpl
theorem ev_callIC {i q : Nat} {g : GI} {wi : WI} (C : Cal X.prog X.w X.K X.mg X.base x k ps (spI X.K q g)) (hr : Room k X.A) (ha : AI X T m i q (e :: es) wi) (ht : T.own i = true := by rfl) (hg : Gl X x := by rfl)
    (hdb : (x == ("__debug__" : Str)) = false := by decide) (he : starEach (e :: es) X.env = (false, eval e X.env) :: starEach es X.env := by rfl) (hpl : (backTo pos (starEach es X.env)).any (·.1) = false := by rfl) :
    EV X T true true (.Call (.Name x p) (e :: es) [] pos) (wCallI i g wi) := by
  obtain ⟨f, fd, F, h1, h2, h3⟩ := C
  exact ev_callI F hr h1 h2 h3 ha ht hg hdb he hpl
def compB (sc scope : Scope) (N : List Str) (x : Str) (ix : List Nat) : Bool :=
  (scope.kind == .function) && scope.names.all (fun y => y.2 != .cell) && scope.names.all (fun y => y.2 != .local || scope.names.lookup y.1 == some .local) && (scope.names.lookup x == some .local) &&
    scope.names.all (fun y => y.2 != .free || (sc.names.lookup y.1 == some .cell || sc.names.lookup y.1 == some .free)) &&
    ix.all (fun i => match N[i]? with | some y => scope.names.lookup y == some .free | none => false) && decide (bN N x ix).Nodup
structure CompB (X : Cx) (scope : Scope) (x : Str) (ix : List Nat) : Prop where
  B : BlkScope X.env scope x
  hix : ∀ i ∈ ix, ∃ y, X.N[i]? = some y ∧ scope.names.lookup y = some .free
  hN : (bN X.N x ix).Nodup
theorem compB_mk {scope : Scope} {ix : List Nat} (sc : Scope) (N : List Str) (h : compB sc scope N x ix = true) (h1 : X.env.scope = sc := by rfl) (h2 : X.N = N := by rfl) : CompB X scope x ix := by
  subst h1 h2
  simp only [compB, Bool.and_eq_true, List.all_eq_true, Bool.or_eq_true, decide_eq_true_eq, beq_iff_eq, bne_iff_ne] at h
  obtain ⟨⟨⟨⟨⟨⟨a1, a2⟩, a3⟩, a4⟩, a5⟩, a6⟩, a7⟩ := h
  refine ⟨⟨a1, a2, fun y hy e => (a3 y hy).resolve_left (fun z => z e), a4, fun y hy e => (a5 y hy).resolve_left (fun z => z e)⟩, fun i hi => ?_, a7⟩
  have := a6 i hi
  cases q : X.N[i]? with
  | none => rw [q] at this; cases this
  | some y =>
    rw [q] at this
    exact ⟨y, rfl, by simpa using this⟩
theorem ev_compB {elt iter : Expr} {px : Pos} {scope : Scope} {ifs : List Expr} {ix : List Nat} (h : CompOk X T m elt iter x px scope ifs ix w) (B : CompB X scope x ix) (hc : X.calm = true := by rfl)
    (hs : ∀ x, foldedSetIterable iter X.env x = pure x := by intro _; rfl) : EV X T m true (.ListComp elt [⟨.Name x px, iter, ifs, 0⟩] scope pos) w := ev_comp h B.B B.hix B.hN hc hs
end
end PV
set_option Elab.async false
set_option linter.all false
set_option maxRecDepth 100000
set_option maxHeartbeats 4000000
namespace PV
open PySem PySem.Spec L2
section
variable {X : Cx} {T : Tg} {m o m0 m1 m2 m3 o1 o2 : Bool} {e a b : Expr} {w wa wb we : WE} {pos p2 p : Pos} {es : List Expr} {wr : WA} {x y : Str} {wt : WT} {ws : WS}
def wGet2 (wd wk wx : WE) : WE := fun ρ Q => wd ρ fun d ρ1 => noDct d = false ∧ wk ρ1 fun k ρ2 => wx ρ2 fun x ρ3 => x.pure = true ∧ dGet2 d k x fun r => r.pure = true ∧ Q r ρ3
where noDct : D → Bool
  | .dik _ => false
  | .dit _ => false
  | _ => true
theorem Rep.isD {K : PySem.W.Frag} {H : Hp} {d : D} {v : V} {F : List Addr} (r : Rep K H d v F) (h : wGet2.noDct d = false) : ∃ a, v = .ref a ∧ IsD H a := by
  cases r with
  | dik e _ => exact ⟨_, rfl, .inl ⟨_, .of e⟩⟩
  | dit e _ => exact ⟨_, rfl, .inr ⟨_, .of e⟩⟩
  | _ => cases h
theorem ev_get2 {oe ek ex : Expr} {wd wk wx : WE} {apos cpos : Pos} (hu : X.A.units + 1 < cLine) (hd : EV X T false o1 oe wd) (hk : EV X T false o2 ek wk) (hx : EV X T false o ex wx)
    (m : M2 X oe "get" apos ek ex cpos := by exact ⟨rfl, rfl, rfl, rfl⟩) : EV X T false true (.Call (.Attribute oe "get" apos) [ek, ex] [] cpos) (wGet2 wd wk wx) := by
  obtain ⟨td, pd, gd⟩ := hd
  obtain ⟨tk, pk, gk⟩ := hk
  obtain ⟨tx, px, gx⟩ := hx
  refine ⟨_, pe_dget2 hu pd pk px m, fun z R σ H W ρ Q Q' s hw k => ?_⟩
  refine gd z R σ H W ρ _ _ s hw fun v H1 W1 d ρ1 F p ⟨hn, q⟩ => ?_
  obtain ⟨sm1, rfl, rfl⟩ := p.calm rfl
  obtain ⟨ad, rfl, isd⟩ := p.rep.isD hn
  refine ⟨ad, rfl, isd, gk z R σ H1 W1 ρ1 _ _ p.sr q fun vk H2 W2 kd ρ2 F2 p2 q2 => ?_⟩
  obtain ⟨sm2, rfl, rfl⟩ := p2.calm rfl
  refine gx z R σ H2 W2 ρ2 _ _ p2.sr q2 fun vx H3 W3 xd ρ3 F3 p3 q3 => ?_
  obtain ⟨sm3, rfl, rfl⟩ := p3.calm rfl
  obtain ⟨hxp, q⟩ := q3
  obtain ⟨-, rx⟩ := p3.rep.pure hxp
  have rd := (p.rep.same sm2).same sm3
  have rk := p2.rep.same sm3
  have fin : ∀ (o' : Option V) (od : Option D), ((od = none ∧ o' = none) ∨ ∃ d v B, od = some d ∧ o' = some v ∧ Rep X.K H3 d v B) → ((od.getD xd).pure = true ∧ Q (od.getD xd) ρ3) → Q' (o'.getD vx) H3 := fun o' od hh ⟨hp, hq⟩ => by
    have sm : Same H H3 := (sm1.trans sm2).trans sm3
    rcases hh with ⟨rfl, rfl⟩ | ⟨dd, v, B, rfl, rfl, r⟩
    · exact k _ H3 W3 _ ρ3 [] (Post.flat p3.sr (FrW.same W3 sm) (fun _ => ⟨sm, rfl, rfl⟩) rx) hq
    · obtain ⟨-, r⟩ := r.pure hp
      exact k _ H3 W3 _ ρ3 [] (Post.flat p3.sr (FrW.same W3 sm) (fun _ => ⟨sm, rfl, rfl⟩) r) hq
  cases rd with
  | @dik a kvs ds G e r =>
    cases kd with
    | int i =>
      have := rep_int rk; subst this
      refine ⟨valV kvs (.inl i), DGet.k (k := .inl i) e, fin _ (valD ds (.inl i)) ?_ q⟩
      rcases r.val (.inl i) with h | ⟨d, v, B, h1, h2, h3, _⟩
      · exact .inl h
      · exact .inr ⟨d, v, B, h1, h2, h3⟩
    | str i =>
      have : vk = .str i := by cases rk; rfl
      subst this
      refine ⟨valV kvs (.inr i), DGet.k (k := .inr i) e, fin _ (valD ds (.inr i)) ?_ q⟩
      rcases r.val (.inr i) with h | ⟨d, v, B, h1, h2, h3, _⟩
      · exact .inl h
      · exact .inr ⟨d, v, B, h1, h2, h3⟩
    | _ => exact (show False from q).elim
  | @dit a kvs ds G e r =>
    cases kd with
    | tup l =>
      obtain ⟨ks, hks, q⟩ := oget_some q
      cases rk with
      | @tup b xs _ _ eb rb =>
        have hx := rb.keys hks
        subst hx
        refine ⟨valV kvs ks, DGet.t (k := ks) e eb, fin _ (valD ds ks) ?_ q⟩
        rcases r.val ks with h | ⟨d, v, B, h1, h2, h3, _⟩
        · exact .inl h
        · exact .inr ⟨d, v, B, h1, h2, h3⟩
    | _ => exact (show False from q).elim
  | _ => cases hn
end
end PV
set_option Elab.async false
set_option linter.all false
set_option maxRecDepth 100000
set_option maxHeartbeats 4000000
namespace PV
open PySem PySem.Spec L2
section
variable {X : Cx} {T : Tg} {m o m0 m1 m2 m3 o1 o2 : Bool} {e a b : Expr} {w wa wb we : WE} {pos p2 p : Pos} {es : List Expr} {wr : WA} {x y : Str} {wt : WT} {ws : WS}
def kD : Key → D
  | .inl i => .int i
  | .inr x => .str x
theorem rep_kD {K : PySem.W.Frag} {H : Hp} (k : Key) : Rep K H (kD k) (kV k) [] := by
  cases k with
  | inl i => exact .int i
  | inr x => exact .str x
def keysD (kvs : List (Key × D)) : List D := kvs.map fun kv => kD kv.1
def wKeys (w : WE) : WL := fun ρ Q => w ρ fun d ρ' => match d with
  | .dik kvs => Q (keysD kvs) ρ'
  | _ => False
end
end PV
set_option Elab.async false
set_option linter.all false
set_option maxRecDepth 100000
set_option maxHeartbeats 4000000
namespace PV
open PySem PySem.Spec L2
open PySem.W (Dat kqdP kqdPs kqdOk)
section
variable {X : Cx}
def sameK (ds es : List (Key × D)) : Prop := ds.length = es.length ∧ ∀ p ∈ ds, valD es p.1 = some p.2
def eqK (ds es : List (Key × D)) : Prop := (∀ p ∈ ds, eqOk 9 p.2 = true) ∧ ∀ k d, valD es k = some d → eqOk 9 d = true
def dkD : D → Option (List (Key × D))
  | .dik ds => some ds
  | .fdk ds => some ds
  | _ => none
def dEqK (neg : Bool) : G2 := fun x y k => oget (dkD x) fun ds => oget (dkD y) fun es => eqK ds es ∧ (sameK ds es → k (.bl (!neg))) ∧ (¬ sameK ds es → k (.bl neg))
end
end PV
set_option Elab.async false
set_option linter.all false
set_option maxRecDepth 100000
set_option maxHeartbeats 4000000
namespace PV
open PySem PySem.Spec L2
section
variable {X : Cx} {T : Tg} {m o m0 m1 m2 m3 o1 o2 : Bool} {e a b : Expr} {w wa wb we : WE} {pos p2 p : Pos} {es : List Expr} {wr : WA} {x y : Str} {wt : WT} {ws : WS}
def dListK : GA
  | [.dik kvs], k => k (.lst (keysD kvs))
  | _, _ => False
theorem Reps.keysD {K : PySem.W.Frag} {H : Hp} : ∀ {ds : List (Key × D)} {kvs : List (Key × V)} {F : List Addr}, RepK K H ds kvs F → Reps K H (keysD ds) (kvs.map fun kv => kV kv.1) []
  | [], _, _, r => by cases r; exact .nil
  | p :: ds, _, _, r => by
    cases r with
    | @cons k d v _ vs F G h r =>
      have := Reps.cons (rep_kD (K := K) (H := H) k) (Reps.keysD r)
      simpa [PV.keysD] using this
def dAddT : G2
  | .int i, .int j, k => k (.int (i + j))
  | .str x, .str y, k => x.length + y.length ≤ sizeLine ∧ k (.str (x ++ y))
  | .tup xs, .tup ys, k => pureL xs = true ∧ pureL ys = true ∧ xs.length + ys.length ≤ sizeLine ∧ k (.tup (xs ++ ys))
  | .lst xs, .lst ys, k => pureL xs = true ∧ pureL ys = true ∧ xs.length + ys.length ≤ sizeLine ∧ k (.lst (xs ++ ys))
  | _, _, _ => False
theorem od_addT : OpD X (binaryOp .Add) dAddT := by
  obtain ⟨r0, o0, g0⟩ := od_add (X := X)
  refine ⟨_, OpR.or op_cat0 o0, fun H a b x y F1 F2 k Q ra rb g q => ?_⟩
  match a, b, ra, rb, g with
  | .int i, .int j, ra, rb, g => exact .inr (g0 H _ _ x y F1 F2 k Q ra rb g q)
  | .str i, .str j, ra, rb, g => exact .inr (g0 H _ _ x y F1 F2 k Q ra rb g q)
  | .lst i, .lst j, ra, rb, g => exact .inr (g0 H _ _ x y F1 F2 k Q ra rb g q)
  | .tup [], .tup ys, ra, rb, g =>
    cases ra with
    | @tup p _ _ _ e1 r1 =>
      cases r1
      cases rb with
      | @tup p' us _ _ e2 r2 => exact .inl ⟨p, p', us, rfl, rfl, .of e1, .of e2, q _ _ _ _ (.flat (.tup e2 (r2.pure g.2.1).2)) g.2.2.2⟩
  | .tup (d :: xs), .tup ys, ra, rb, g => exact .inr (g0 H _ _ x y F1 F2 k Q ra rb ⟨g.1, g.2.1, by simp, g.2.2⟩ q)
def dSlT : D → Option Int → Option Int → (D → Prop) → Prop
  | .lst xs, lo, hi, k => pureL xs = true ∧ k (.lst (cutD xs lo hi))
  | .kls xs, lo, hi, k => pureL xs = true ∧ k (.lst (cutD xs lo hi))
  | .tup xs, lo, hi, k => pureL xs = true ∧ k (.tup (cutD xs lo hi))
  | _, _, _, _ => False
theorem sl_anyT : SlR X (fun x lo hi H Q => (rSlL X.K x lo hi H Q ∨ rSlT X.K x lo hi H Q) ∨ rSlW X.K x lo hi H Q) := SlR.or sl_any sl_tupW
def wSlT (w : WE) (wl wh : WO) : WE := fun ρ Q => w ρ fun d ρ1 => wl ρ1 fun lo ρ2 => wh ρ2 fun hi ρ3 => dSlT d lo hi fun d' => Q d' ρ3
theorem cut_whole {xs : List D} {lo hi : Option Int} (h : HT.sIx xs.length 0 lo = 0 ∧ HT.sIx xs.length xs.length hi = xs.length) : cutD xs lo hi = xs := by
  unfold cutD
  rw [h.1, h.2]
  simp
theorem ev_slT {lo hi : Option Expr} {wl wh : WO} (he : EV X T m1 o1 e w) (hl : OV X T m2 lo wl) (hh : OV X T m3 hi wh) (hc : o1 = true ∨ (m2 || m3) = false := by first | exact .inl rfl | exact .inr rfl) :
    EV X T (m1 || (m2 || m3)) true (.Subscript e (.Slice lo hi none p2) pos) (wSlT w wl wh) := by
  obtain ⟨te, pe, ge⟩ := he
  obtain ⟨tl, pl, gl⟩ := hl
  obtain ⟨th, ph, gh⟩ := hh
  refine ⟨_, pe_slice sl_anyT pe pl ph, fun z R σ H W ρ Q Q' s hw k => ?_⟩
  refine ge z R σ H W ρ _ _ s hw fun v H1 W1 d ρ1 F p q => ?_
  refine gl z R σ H1 W1 ρ1 _ _ p.sr q fun lo H2 W2 ρ2 p2 q2 => ?_
  refine gh z R σ H2 W2 ρ2 _ _ p2.sr q2 fun hi H3 W3 ρ3 p3 q3 => ?_
  have pp := p2.seq p3
  have r3 : Rep X.K H3 d v F := by
    rcases hc with hc | hc
    · exact p.rep.keep pp.fr fun a h => ((p.own hc).2 a h).2
    · exact p.rep.same (pp.calm hc).1
  have fin : ∀ ad d' v' Fn, Fin X.K H3 ad d' v' Fn → Q d' ρ3 → Q' v' ad := fun H' d' v' F' fi hq => by
    refine k v' H' W3 d' ρ3 F' (Post.fin p3.sr (p.fr.trans pp.fr) (fun h => ?_) fi.same fi.rep fi.nd fi.new) hq
    rw [Bool.or_eq_false_iff] at h
    obtain ⟨a1, a2, a3⟩ := p.calm h.1
    obtain ⟨b1, b2, b3⟩ := pp.calm h.2
    exact ⟨a1.trans b1, b2.trans a2, b3.trans a3⟩
  match d, r3, q3 with
  | .lst ds, r3, q3 =>
    cases r3 with
    | @lst a xs _ F e1 r9 =>
      obtain ⟨hp, hq⟩ := q3
      obtain ⟨_, r9⟩ := r9.pure hp
      exact .inl (.inl ⟨a, xs, rfl, .of e1, fun l hl => fin _ _ _ [l] ⟨same_upd hl, .lst upd_same (r9.cut.same (same_upd hl)), by simp, fun b m => by rw [List.mem_singleton.mp m]; exact hl⟩ hq⟩)
  | .kls ds, r3, q3 =>
    cases r3 with
    | @kls a xs _ e1 r9 =>
      obtain ⟨hp, hq⟩ := q3
      exact .inl (.inl ⟨a, xs, rfl, e1.sq, fun l hl => fin _ _ _ [l] ⟨same_upd hl, .lst upd_same (r9.cut.same (same_upd hl)), by simp, fun b m => by rw [List.mem_singleton.mp m]; exact hl⟩ hq⟩)
  | .tup ds, r3, q3 =>
    cases r3 with
    | @tup a xs _ F e1 r9 =>
      obtain ⟨hp, hq⟩ := q3
      obtain ⟨_, r9⟩ := r9.pure hp
      by_cases hn : HT.sIx ds.length 0 lo = 0 ∧ HT.sIx ds.length ds.length hi = ds.length
      · rw [cut_whole hn] at hq
        exact .inr ⟨a, xs, rfl, .of e1, by rw [r9.length]; exact hn, fin _ _ _ [] (.flat (.tup e1 r9)) hq⟩
      · exact .inl (.inr ⟨a, xs, rfl, .of e1, by rw [r9.length]; exact hn, fun l hl => fin _ _ _ [] ⟨same_upd hl, .tup upd_same (r9.cut.same (same_upd hl)), by simp, fun b m => nomatch m⟩ hq⟩)
def wGetL (wd wk wx : WE) : WE := fun ρ Q => wd ρ fun d ρ1 => wGet2.noDct d = false ∧ wk ρ1 fun k ρ2 => wx ρ2 fun x ρ3 => dGet2 d k x fun r => Q r ρ3
def gClearK : GM
  | .dik _, [], k => k .non (.dik [])
  | _, _, _ => False
end
end PV
set_option Elab.async false
set_option linter.all false
set_option maxRecDepth 100000
set_option maxHeartbeats 4000000
namespace PV
open PySem PySem.Spec L2
section
variable {κ : Type} [DecidableEq κ]
end
section
variable {K : PySem.W.Frag} {H : Hp}
end
section
variable {X : Cx} {T : Tg} {m o m0 m1 m2 m3 o1 o2 : Bool} {e a b : Expr} {w wa wb we : WE} {pos p2 p : Pos} {es : List Expr} {wr : WA} {x y : Str} {wt : WT} {ws : WS}
def dikOf (d : D) (k : List (Key × D) → Prop) : Prop := match d with
  | .dik kvs => k kvs
  | _ => False
def wSetO (i : Nat) (wv wi : WE) : WS := fun P ρ => wv ρ fun d ρ1 => (look ρ1 i).isSome = true ∧ wi ρ1 fun c _ => oget (look ρ1 i) fun s => dikOf s fun kvs => kvs.length < sizeLine ∧ (kvs.map (·.1)).Nodup ∧
  oget (keyOf c) fun k => P.nx (ρ1.set i (some (.dik (putD kvs k d))))
def lstOf2 (d : D) (k : List D → Prop) : Prop := match d with
  | .lst xs => k xs
  | _ => False
def wDka (i : Nat) (wk wv : WE) : WS := fun P ρ => oget (look ρ i) fun s => dikOf s fun kvs => (kvs.map (·.1)).Nodup ∧ wk ρ fun kd _ => oget (keyOf kd) fun k => oget (valD kvs k) fun l => lstOf2 l fun xs =>
  xs.length < sizeLine ∧ wv ρ fun d _ => d.pure = true ∧ P.nx (ρ.set i (some (.dik (putD kvs k (.lst (xs ++ [d]))))))
end
end PV
set_option Elab.async false
set_option linter.all false
set_option maxRecDepth 100000
set_option maxHeartbeats 4000000
namespace PV
open PySem PySem.Spec L2
section
variable {X : Cx} {T : Tg} {m o m0 m1 m2 m3 o1 o2 : Bool} {e a b : Expr} {w wa wb we : WE} {pos p2 p : Pos} {es : List Expr} {wr : WA} {x y : Str} {wt : WT} {ws : WS}
def wKeysS (s : Nat) : WL := fun ρ Q => oget (look ρ s) fun c => dikOf c fun kvs => Q (keysD kvs) (ρ.set s (some (.fdk kvs)))
end
end PV
set_option Elab.async false
set_option linter.all false
set_option maxRecDepth 100000
set_option maxHeartbeats 4000000
namespace PV
open PySem PySem.Spec L2
section
variable {X : Cx} {T : Tg} {m o m0 m1 m2 m3 o1 o2 : Bool} {e a b : Expr} {w wa wb we : WE} {pos p2 p : Pos} {es : List Expr} {wr : WA} {x y : Str} {wt : WT} {ws : WS}
def zipD (kvs : List (Key × D)) (xs : List D) : List D := (kvs.zip xs).map fun p => .tup [kD p.1.1, p.2]
def wZip (wr : WA) : WL := fun ρ Q => wr ρ fun ds ρ' => match ds with
  | [.dik kvs, .lst xs] => pureL xs = true ∧ Q (zipD kvs xs) ρ'
  | _ => False
end
end PV
set_option Elab.async false
set_option linter.all false
set_option maxRecDepth 100000
set_option maxHeartbeats 4000000
namespace PV
open PySem PySem.Spec L2
section
variable {X : Cx} {T : Tg} {m o m0 m1 m2 m3 o1 o2 : Bool} {e a b : Expr} {w wa wb we : WE} {pos p2 p : Pos} {es : List Expr} {wr : WA} {x y : Str} {wt : WT} {ws : WS}
def gSubD (i : Nat) (wi : WE) : WG := fun d ρ Q => (look ρ i).isSome = true ∧ wi ρ fun c _ => oget (look ρ i) fun s => lstOf2 s fun xs => match c with
  | .int j => oget (ixN xs.length j) fun n => Q (ρ.set i (some (.lst (xs.set n d))))
  | _ => False
end
end PV
set_option Elab.async false
set_option linter.all false
set_option maxRecDepth 100000
set_option maxHeartbeats 4000000
namespace PV
open PySem PySem.Spec L2
section
variable {X : Cx} {T : Tg} {m o : Bool}
end
end PV
set_option Elab.async false
set_option linter.all false
set_option maxRecDepth 100000
set_option maxHeartbeats 4000000
namespace PV
open PySem PySem.Spec L2
section
variable {X : Cx} {T : Tg} {m o m0 m1 m2 m3 o1 o2 : Bool} {e a b : Expr} {w wa wb we : WE} {pos p2 p : Pos} {es : List Expr} {wr : WA} {x y : Str} {wt : WT} {ws : WS}
def dSum : GA
  | [.lst ds], k => ∃ ns : List Int, ds = ns.map D.int ∧ k (.int ns.sum)
  | _, _ => False
def dTupF : GA
  | [.lst xs], k => pureL xs = true ∧ k (.ftp xs)
  | _, _ => False
def dSortD : GA
  | [.dik kvs], k => ∃ ns : List Int, kvs.map (·.1) = ns.map Sum.inl ∧ kvs.length < 64 ∧ ∀ out : List Int, out.Perm ns → out.Pairwise (· ≤ ·) → k (.lst (out.map D.int))
  | _, _ => False
def dCount (d : D) (ds : List D) (k : D → Prop) : Prop := match d, ds with
  | .ftp xs, [.int n] => ∃ ns : List Int, xs = ns.map D.int ∧ k (.int (ns.count n : Nat))
  | _, _ => False
def isFt : D → Bool
  | .ftp _ => true
  | _ => false
def wCount (w : WE) (wr : WA) : WE := fun ρ Q => w ρ fun d ρ1 => isFt d = true ∧ wr ρ1 fun ds ρ2 => dCount d ds fun r => Q r ρ2
def wDisp1 (wk wv : WE) : WE := fun ρ Q => wk ρ fun kd ρ1 => wv ρ1 fun d ρ2 => d.pure = true ∧ oget (keyOf kd) fun k => Q (.dik [(k, d)]) ρ2
def wMove (i j : Nat) : WS := fun P ρ => oget (look ρ j) fun d => P.nx ((ρ.set j none).set i (some d))
end
end PV
set_option Elab.async false
set_option linter.all false
set_option maxRecDepth 100000
set_option maxHeartbeats 4000000
namespace PV
open PySem PySem.Spec L2
section
variable {X : Cx} {T : Tg} {m o m0 m1 m2 m3 me o1 o2 : Bool} {e a b : Expr} {w wa wb we : WE} {pos p2 p : Pos} {es : List Expr} {wr : WA} {x y : Str} {wt : WT} {ws : WS}
def wCompW (i j : Nat) (wl : WL) (we : WE) (ix : List Nat) : WE := fun ρ Q => wl ρ fun ds ρ1 => pureL ds = true ∧ oget (look ρ1 i) fun d0 => flatD d0 = true ∧ ∃ I : Nat → List D → D → Prop, I 0 [] d0 ∧
  (∀ k d ys dd, ds[k]? = some d → I k ys dd → ys.length < sizeLine ∧ we (blkE (ρ1.set i (some dd)) d ix) (fun y ρ' => oget (look ρ' (j + 1)) fun dd' => flatD dd' = true ∧ I (k + 1) (ys ++ [y]) dd')) ∧
  ∀ ys dd, I ds.length ys dd → ys.length ≤ sizeLine ∧ Q (.lst ys) (ρ1.set i (some dd))
end
end PV
set_option Elab.async false
set_option linter.all false
set_option maxRecDepth 100000
set_option maxHeartbeats 4000000
namespace PV
open PySem PySem.Spec L2
open PyProof.Rows (envOfC)
section
variable {X : Cx} {T : Tg} {m o m0 m1 m2 m3 o1 o2 : Bool} {e a b : Expr} {w wa wb we : WE} {pos p2 p : Pos} {es : List Expr} {wr : WA} {x y : Str} {wt : WT} {ws : WS} {k : Nat} {ps : List Str}
def wHereJ (wr : WA) : WI := fun ρ Q => wr ρ fun ds ρ' => Q [] ds ρ'
def wSkipJ (w : WE) (wi : WI) : WI := fun ρ Q => w ρ fun d ρ1 => wi ρ1 fun pre post ρ2 => Q (d :: pre) post ρ2
def wCallJ (i : Nat) (g : GI) (wi : WI) : WE := fun ρ Q => oget (look ρ i) fun d0 => flatD d0 = true ∧ wi ρ fun pre post ρ1 => g (pre ++ d0 :: post) fun d d' => Q d (ρ1.set i (some d'))
end
section
variable {K : PySem.W.Frag} {x : Str} {qual : Str} {st : Stmt} {f : Addr} {fd : FuncData} {N ps : List Str} {T : Tg} {P : Program} {w : World} {mg : Str → Option Value} {base : Heap} {k : Nat} {ww : WS}
end
end PV
set_option Elab.async false
set_option linter.all false
set_option maxRecDepth 100000
set_option maxHeartbeats 4000000
namespace L2
open PySem PySem.Spec PyProof.Rows
section
variable {X : Cx} {es : List Expr} {t : TA} {pos : Pos}
theorem op_fdivB : OpR X (binaryOp .FloorDiv) (rI (fun _ j => 0 < j ∧ j < 2 ^ 256) fun i j => .int (i / j)) := opI fun i j _ _ _ _ _ hc q => by
  have h1 : (0 : Int) < j := hc.1
  refine floordiv_int (by omega) (by rw [Int.fdiv_eq_ediv_of_nonneg i (by omega)]; exact q) (.inl (PyProof.noPylong_of_log2 ?_))
  have h2 : j.natAbs < 2 ^ 256 := by have := hc.2; omega
  have h3 : j.natAbs.log2 < 256 := (Nat.log2_lt (by omega)).mpr h2
  omega
def tLstF (t : TA) : TE := fun σ H Q => t σ H fun xs H1 => xs.length ≤ sizeLine ∧ ∀ p o, H1 p = none → Q (.ref p) (upd H1 p (.frz o (.lst xs)))
theorem pe_lstF (h : PA X es t) : PE X (.List es pos) (tLstF t) := by
  intro pins s σ H Q I hq
  refine wpAny_List_spliced (thn (h pos pins s σ H _ I hq) fun us s1 ⟨xs, H1, I1, r, z, q⟩ => ⟨by rw [← r.length]; exact z, ?_⟩)
  have hf : H1 s1.heap.objs.size = none := I1.hok.fresh (Nat.le_refl _)
  refine ⟨.ref s1.heap.objs.size, upd H1 s1.heap.objs.size (.frz { cls := .type "list", data := .seq us.toArray } (.lst xs)), I1.laid (t' := s1.toks) (fun b u e => Heap.get?_push_of_some _ e) (Nat.le_refl _) ?_, rfl, q _ _ hf⟩
  exact ⟨Heap.get?_push_size _ rfl, z, us, 0, r, Heap.get?_push_size _ rfl⟩
end
end L2
namespace PV
open PySem PySem.Spec L2
section
variable {X : Cx} {T : Tg} {m o m0 m1 m2 m3 me o1 o2 : Bool} {e a b : Expr} {w wa wb we : WE} {pos p2 p : Pos} {es : List Expr} {wr : WA} {x y : Str} {wt : WT} {ws : WS}
def dDivB : G2
  | .int i, .int j, k => 0 < j ∧ j < 2 ^ 256 ∧ k (.int (i / j))
  | _, _, _ => False
theorem od_divB : OpD X (binaryOp .FloorDiv) dDivB := by
  refine ⟨_, op_fdivB, fun H a b x y F1 F2 k Q ra rb g q => ?_⟩
  (cases ra <;> first | exact (show False from g).elim | skip) <;> (cases rb <;> first | exact (show False from g).elim | skip)
  exact ⟨_, _, rfl, rfl, ⟨g.1, g.2.1⟩, q _ _ _ _ (.flat (.int _)) g.2.2⟩
def wBinV (i : Nat) (g : G2) (wb : WE) : WE := fun ρ Q => oget (look ρ i) fun d1 => wb ρ fun d2 ρ2 => look ρ2 i = some d1 ∧ g d1 d2 fun d => Q d ρ2
def dAll : GA
  | [.lst ds], k => ∃ bs : List Bool, ds = bs.map D.bl ∧ k (.bl (bs.all id))
  | _, _ => False
def wLstF (wr : WA) : WE := fun ρ Q => wr ρ fun ds ρ' => pureL ds = true ∧ ds.length ≤ sizeLine ∧ Q (.fls ds) ρ'
theorem ev_lstF (h : AV X T m o es wr) : EV X T m true (.List es pos) (wLstF wr) := by
  obtain ⟨ta, pa, ga⟩ := h
  refine ⟨_, pe_lstF pa, fun z R σ H W ρ Q Q' s hw k => ?_⟩
  refine ga z R σ H W ρ _ _ s hw fun vs H1 W1 ds ρ1 F p q => ?_
  obtain ⟨hp, hz, q⟩ := q
  obtain ⟨-, r⟩ := p.rep.pure hp
  exact ⟨by rw [p.rep.length]; exact hz, fun a ob ha => k _ _ W1 (.fls ds) ρ1 [] (Post.fin p.sr p.fr p.calm (same_upd ha) (.fls upd_same (r.same (same_upd ha))) List.nodup_nil (fun b m => nomatch m)) q⟩
def zipTD (xs ys : List D) : List D := (xs.zip ys).map fun p => .tup [p.1, p.2]
def zipTOf (ds : List D) (k : List D → Prop) : Prop := match ds with
  | [.tup xs, .tup ys] => pureL xs = true ∧ pureL ys = true ∧ k (zipTD xs ys)
  | _ => False
def wZipT (wr : WA) : WL := fun ρ Q => wr ρ fun ds ρ' => zipTOf ds fun l => Q l ρ'
def blkE2 (ρ : Env) (d1 d2 : D) (ix : List Nat) : Env := some d1 :: some d2 :: ix.map (look ρ)
def two2 (d : D) (k : D → D → Prop) : Prop := match d with
  | .tup [a, b] => k a b
  | _ => False
def compI2 (ds : List D) (wt : WT) (we : WE) (ρ1 : Env) (ix : List Nat) (Q : D → Env → Prop) : Prop := ∃ I : Nat → List D → Prop, I 0 [] ∧
  (∀ i d ys, ds[i]? = some d → I i ys → ys.length < sizeLine ∧ two2 d fun d1 d2 => wt (blkE2 ρ1 d1 d2 ix) fun b _ => if b = true then we (blkE2 ρ1 d1 d2 ix) (fun y _ => I (i + 1) (ys ++ [y])) else I (i + 1) ys) ∧
  ∀ ys, I ds.length ys → ys.length ≤ sizeLine ∧ Q (.lst ys) ρ1
def wComp2 (wl : WL) (wt : WT) (we : WE) (ix : List Nat) : WE := fun ρ Q => wl ρ fun ds ρ1 => compI2 ds wt we ρ1 ix Q
def CompOk2 (X : Cx) (T : Tg) (m : Bool) (elt iter tg : Expr) (ts : List Str) (gt : TG) (scope : Scope) (ifs : List Expr) (ix : List Nat) (w : WE) : Prop :=
  ∃ (wi : TI) (tt : TT) (te : TE), PI X tg iter wi ∧ (∀ cl C s₀ H₀ fp, PIfs (cxBlk X scope cl C (bN2 X.N ts ix) s₀ H₀ fp) ifs tt) ∧ (∀ cl C s₀ H₀ fp, PE (cxBlk X scope cl C (bN2 X.N ts ix) s₀ H₀ fp) elt te) ∧
    ∀ (z : Nat → V) (R : Addr → Prop) (σ : St) (H : Hp) (W : Addr → Prop) (ρ : Env) (Q : D → Env → Prop) (Q' : VK), SR X.K T z R H W σ ρ → w ρ Q →
      (∀ v H' W' d ρ' F, Post X.K T z R m true H W σ ρ H' W' ρ' d v F → Q d ρ' → Q' v H') → tComp2 ts wi gt tt te ix σ H Q'
def g2 (K : PySem.W.Frag) : TG := gTup K 2 (gCons (gName 0) (gCons (gName 1) gNil))
theorem comp_ok2 {elt iter : Expr} {px py pt : Pos} {kt : Nat} {scope : Scope} {ifs : List Expr} {wl : WL} {pr : Bool} (ix : List Nat) (hi : IV X T m pr (.Tuple [.Name x px, .Name y py] kt pt) iter wl)
    (ht : ∀ cl C s₀ H₀ fp, CV (cxBlk X scope cl C (bN2 X.N [x, y] ix) s₀ H₀ fp) ifs wt) (he : ∀ cl C s₀ H₀ fp, EV (cxBlk X scope cl C (bN2 X.N [x, y] ix) s₀ H₀ fp) TR false true elt we) :
    CompOk2 X T m elt iter (.Tuple [.Name x px, .Name y py] kt pt) [x, y] (g2 X.K) scope ifs ix (wComp2 wl wt we ix) := by
  obtain ⟨wi, pi, gi⟩ := hi
  refine ⟨wi, fun σ H Q => ∀ cl C s₀ H₀ fp, Classical.choose (ht cl C s₀ H₀ fp) σ H Q, fun σ H Q => ∀ cl C s₀ H₀ fp, Classical.choose (he cl C s₀ H₀ fp) σ H Q, pi,
    fun cl C s₀ H₀ fp pins s σ H Q I h => (Classical.choose_spec (ht cl C s₀ H₀ fp)).1 pins s σ H Q I (h cl C s₀ H₀ fp), fun cl C s₀ H₀ fp pins s σ H Q I h => (Classical.choose_spec (he cl C s₀ H₀ fp)).1 pins s σ H Q I (h cl C s₀ H₀ fp), ?_⟩
  intro z R σ H W ρ Q Q' s hw k
  refine gi z R σ H W ρ _ _ s hw fun J H1 W1 ds ρ1 p jd q => ?_
  obtain ⟨I, h0, hI, hd⟩ := q
  refine ⟨fun i n ys H2 => n = ds.length - i ∧ i ≤ ds.length ∧ Same H1 H2 ∧ ∃ es F, Reps X.K H2 es ys F ∧ F.Nodup ∧ (∀ a ∈ F, H1 a = none) ∧ I i es, ds.length, ⟨by simp, Nat.zero_le _, Same.refl _, [], [], .nil, List.nodup_nil, (fun a m => (nomatch m)), h0⟩, ?_⟩
  rintro i n ys H2 ⟨rfl, hi, sm, es, F, re, nd, nw, i2⟩
  obtain ⟨j1, j2⟩ := jd i H2 (wz pr W1) (FrW.same _ sm)
  by_cases hlt : i < ds.length
  · have hdi : ds[i]? = some ds[i] := List.getElem?_eq_getElem hlt
    obtain ⟨hgo, hy⟩ := j2 _ hdi
    obtain ⟨hz, q1⟩ := hI i _ es hdi i2
    refine .inr ⟨hgo, by rw [re.length]; exact hz, fun v H3 yl o ol => ?_⟩
    obtain ⟨sm3, Fv, rv, _⟩ := hy v H3 yl
    generalize ds[i] = dd at q1 rv
    match dd, rv, q1 with
    | .tup [d1, d2], rv, q1 =>
      cases rv with
      | @tup av vs _ _ ev rr =>
        obtain ⟨v1, v2, F1, F2, rfl, r1, r2⟩ := rr.at2
        refine ⟨av, [v1, v2], rfl, .of ev, rfl, v1, [v2], rfl, v2, [], rfl, rfl, [some v1, some v2], ?_, rfl, ?_⟩
        · match o, ol with
          | [o1, o2], _ => rfl
        have srB : ∀ z', SR X.K TR z' (Any H3) H3 (fun _ => False) (((bS2 σ o ix).set 0 (some v1)).set 1 (some v2)) (blkE2 ρ1 d1 d2 ix) := fun z' => by
          have eS : ((bS2 σ o ix).set 0 (some v1)).set 1 (some v2) = bS2 σ [some v1, some v2] ix := by
            match o, ol with
            | [o1, o2], _ => rfl
          rw [eS]
          refine SR.readonly rfl (by simp [bS2, blkE2]) fun j d hj => ⟨rfl, ?_⟩
          match j with
          | 0 =>
            simp only [blkE2, look, Option.some.injEq] at hj
            subst hj
            exact ⟨v1, F1, rfl, r1⟩
          | 1 =>
            simp only [blkE2, look, Option.some.injEq] at hj
            subst hj
            exact ⟨v2, F2, rfl, r2⟩
          | j + 2 =>
            have hj' : look (ix.map (look ρ1)) j = some d := hj
            rw [look_map] at hj'
            cases hx : ix[j]? with
            | none => rw [hx] at hj'; cases hj'
            | some q =>
              rw [hx] at hj'
              obtain ⟨fp, s1⟩ := (p.sr.same sm).same sm3
              obtain ⟨u, hu, ru⟩ := s1.at_ q d hj'
              refine ⟨u, fp q, ?_, ru⟩
              show (ix.map fun i => (σ[i]?).getD none)[j]? = some (some u)
              rw [List.getElem?_map, hx]
              simp [hu]
        intro cl C s₀ H₀ fp
        refine (Classical.choose_spec (ht cl C s₀ H₀ fp)).2 (fun _ => .non) (Any H3) _ H3 (fun _ => False) (blkE2 ρ1 d1 d2 ix) _ _ (srB _) q1 fun bb H4 W4 ρ4 p4 q4 => ?_
        obtain ⟨sm4, hW4, hρ4⟩ := p4.calm rfl
        have re4 := ((re.same sm3).same sm4)
        cases bb with
        | false => exact ⟨ds.length - (i + 1), by omega, rfl, hlt, (sm.trans sm3).trans sm4, es, F, re4, nd, nw, q4⟩
        | true =>
          show if true = true then _ else _
          rw [if_pos rfl]
          intro cl C s₀ H₀ fp
          refine (Classical.choose_spec (he cl C s₀ H₀ fp)).2 (fun _ => .non) (Any H3) _ H4 W4 (blkE2 ρ1 d1 d2 ix) _ _ (hρ4 ▸ p4.sr) (by simpa using q4) fun u H5 W5 y ρ5 Fy p5 q5 => ?_
          obtain ⟨sm5, _, _⟩ := p5.calm rfl
          obtain ⟨ny, ky⟩ := p5.own rfl
          have sm15 : Same H1 H5 := ((sm.trans sm3).trans sm4).trans sm5
          refine ⟨ds.length - (i + 1), by omega, rfl, hlt, sm15, es ++ [y], F ++ Fy, (re4.same sm5).snoc p5.rep, nodup_ins nd ny fun a ha hf => ?_, fun a ha => ?_, q5⟩
          · obtain ⟨ob, e1, _⟩ := re4.dom a hf
            rw [(ky a ha).1] at e1; cases e1
          · rcases List.mem_append.mp ha with ha | ha
            · exact nw a ha
            · exact ((sm.trans sm3).trans sm4).free (ky a ha).1
  · have e : i = ds.length := by omega
    subst e
    obtain ⟨hz, q1⟩ := hd es i2
    refine .inl ⟨j1 (Nat.le_refl _), by rw [re.length]; exact hz, fun l hl => ?_⟩
    have hl1 : H1 l = none := sm.free hl
    refine k _ _ W1 (.lst es) ρ1 (l :: F) ⟨(p.sr.same sm).same (same_upd hl), (p.fr.trans (FrW.same W1 sm)).trans (FrW.same W1 (same_upd hl)), fun h => ⟨((p.calm h).1.trans sm).trans (same_upd hl), (p.calm h).2⟩, .lst upd_same (re.same (same_upd hl)), fun _ => ⟨List.nodup_cons.mpr ⟨fun h => ?_, nd⟩, fun b hb => ?_⟩⟩ q1
    · obtain ⟨ob, e1, _⟩ := re.dom l h
      rw [hl] at e1; cases e1
    · rcases List.mem_cons.mp hb with rfl | hb
      · exact ⟨p.fr.dom _ hl1, p.sr.nw hl1⟩
      · exact ⟨p.fr.dom _ (nw b hb), p.sr.nw (nw b hb)⟩
structure CompB2 (X : Cx) (scope : Scope) (x y : Str) (ix : List Nat) : Prop where
  B1 : CompB X scope x ix
  B2 : CompB X scope y ix
  nd : (bN2 X.N [x, y] ix).Nodup
theorem compB2_mk {scope : Scope} {ix : List Nat} (sc : Scope) (N : List Str) (h : (compB sc scope N x ix && compB sc scope N y ix && decide (bN2 N [x, y] ix).Nodup) = true) (h1 : X.env.scope = sc := by rfl) (h2 : X.N = N := by rfl) : CompB2 X scope x y ix := by
  simp only [Bool.and_eq_true, decide_eq_true_eq] at h
  exact ⟨compB_mk sc N h.1.1 h1 h2, compB_mk sc N h.1.2 h1 h2, by rw [h2]; exact h.2⟩
theorem pg2 {scope : Scope} {ix : List Nat} {px py pt : Pos} {kt : Nat} (B : CompB2 X scope x y ix) (hc : X.calm = true) (cl : List (Str × Addr)) (C : Addr) (s₀ : Shared) (H₀ : Hp) (fp : List Addr) :
    PG (cxBlk X scope cl C (bN2 X.N [x, y] ix) s₀ H₀ fp) (.Tuple [.Name x px, .Name y py] kt pt) (g2 X.K) := by
  have l1 : (cxBlk X scope cl C (bN2 X.N [x, y] ix) s₀ H₀ fp).env.scope.names.lookup x = some .local := lookup_relabel_local B.B1.B.lx
  have l2 : (cxBlk X scope cl C (bN2 X.N [x, y] ix) s₀ H₀ fp).env.scope.names.lookup y = some .local := lookup_relabel_local B.B2.B.lx
  exact pg_tup hc (pgs_cons (pg_name (i := 0) B.nd rfl (.inl l1) (.inr l1)) (pgs_cons (pg_name (i := 1) B.nd rfl (.inl l2) (.inr l2)) pgs_nil))
theorem ev_comp2 {elt iter : Expr} {px py pt : Pos} {kt : Nat} {scope : Scope} {ifs : List Expr} {ix : List Nat} (h : CompOk2 X T m elt iter (.Tuple [.Name x px, .Name y py] kt pt) [x, y] (g2 X.K) scope ifs ix w) (B : CompB2 X scope x y ix) (hc : X.calm = true := by rfl)
    (hs : ∀ x, foldedSetIterable iter X.env x = pure x := by intro _; rfl) : EV X T m true (.ListComp elt [⟨.Tuple [.Name x px, .Name y py] kt pt, iter, ifs, 0⟩] scope pos) w := by
  obtain ⟨wi, tt, te, h1, h2, h3, h4⟩ := h
  exact ⟨_, pe_comp2 ix hc B.B1.B B.B1.hix B.nd h1 (pg2 B hc) h2 h3 hs, h4⟩
end
end PV
set_option Elab.async false
set_option linter.all false
set_option maxRecDepth 100000
set_option maxHeartbeats 4000000
namespace PV
open PySem PySem.Spec L2
open Builtin.Str (glued tooLong)
section
variable {X : Cx} {T : Tg} {m o m0 m1 m2 m3 me o1 o2 : Bool} {e a b : Expr} {w wa wb we : WE} {pos p2 p : Pos} {es : List Expr} {wr : WA} {x y : Str} {wt : WT} {ws : WS}
theorem sv_comp2 {elt iter : Expr} {v : Str} {px py pv pt spos : Pos} {kt : Nat} {scope : Scope} {ifs : List Expr} {ix : List Nat} {j : Nat} (h : CompOk2 X T m elt iter (.Tuple [.Name x px, .Name y py] kt pt) [x, y] (g2 X.K) scope ifs ix w) (B : CompB2 X scope x y ix) (hNd : X.N.Nodup)
    (hj : X.N[j]? = some v := by rfl) (hy : Loc X.env.scope v := by first | exact Or.inl rfl | exact Or.inr rfl) (hio : j ∉ T.io := by decide)
    (hsw : swapsWith (.ListComp elt [⟨.Tuple [.Name x px, .Name y py] kt pt, iter, ifs, 0⟩] scope pos) (some (.Name v pv)) spos.line X.env = pure true := by rfl)
    (hf : X.fn v = true ∨ X.env.scope.names.lookup v = some .local := by first | exact .inl rfl | exact .inr rfl | assumption) (hc : X.calm = true := by rfl)
    (hs : ∀ x, foldedSetIterable iter X.env x = pure x := by intro _; rfl) : SV X T (.Assign [.Name v pv] (.ListComp elt [⟨.Tuple [.Name x px, .Name y py] kt pt, iter, ifs, 0⟩] scope pos) spos) (wSet j w) := by
  obtain ⟨wi, tt, te, h1, h2, h3, h4⟩ := h
  exact sv_setC ⟨_, ps_comp2 ix hc B.B1.B hNd hj hy hsw B.B1.hix B.nd h1 (pg2 B hc) h2 h3 hf hs, h4⟩ hio
def dStr : GA
  | [.int i], k => i.natAbs.log2 < 1920 ∧ k (.str (toString i))
  | _, _ => False
abbrev GS := Str → List D → (D → Prop) → Prop
def gJoin : GS := fun sep ds k => match ds with
  | [.lst xs] => ∃ ws : List Str, xs = ws.map D.str ∧ tooLong (ws.toArray.foldl (fun n w => n + w.length + sep.length) 0) = false ∧ (glued sep ws).length ≤ sizeLine ∧ k (.str (glued sep ws))
  | _ => False
def sgn (x : Str) : List D := x.cps.toList.map fun c => .str ⟨#[c]⟩
def signsOf (d : D) (k : List D → Prop) : Prop := match d with
  | .str x => x.cps.all (· < 128) = true ∧ k (sgn x)
  | _ => False
def wSigns (w : WE) : WL := fun ρ Q => w ρ fun d ρ' => signsOf d fun ds => Q ds ρ'
theorem iv_str {tg oe : Expr} (h : EV X T m o oe w) : IV X T m true tg oe (wSigns w) := by
  obtain ⟨te, pe, ge⟩ := h
  refine ⟨_, pi_str pe, fun z R σ H W ρ Q RR s hw k => ?_⟩
  refine ge z R σ H W ρ _ _ s hw fun v H1 W1 d ρ1 F p q => ?_
  match d, p, q with
  | .str x, p, q =>
    have hv : v = .str x := by have := p.rep; cases this; rfl
    subst hv
    obtain ⟨ha, q⟩ := q
    refine ⟨x, rfl, ha, k _ H1 W1 (sgn x) ρ1 ⟨p.sr, p.fr, p.calm⟩ (fun i H2 W2 f => ?_) q⟩
    have hlen : (sgn x).length = x.cps.size := by simp [sgn]
    refine ⟨fun hi => by show x.cps.size ≤ i; omega, fun d hd => ?_⟩
    have hi : i < x.cps.size := by have := (List.getElem?_eq_some_iff.mp hd).1; omega
    refine ⟨hi, fun v H3 y => ?_⟩
    obtain ⟨rfl, c, hc, rfl⟩ := y
    have hd' : d = .str ⟨#[c]⟩ := by
      unfold sgn at hd
      rw [List.getElem?_map, Array.getElem?_toList, hc] at hd
      exact (Option.some.inj hd).symm
    subst hd'
    exact ⟨Same.refl _, [], .str _, fun a m => nomatch m⟩
def gExtend : GM
  | .lst xs, [.lst ys], k => pureL ys = true ∧ xs.length + ys.length ≤ sizeLine ∧ k .non (.lst (xs ++ ys))
  | _, _, _ => False
theorem md_extend : MtD X "list.extend" gExtend := by
  refine ⟨_, mt_extend, fun H d ds v xs F G k Q r nd rs ndG dis g q => ?_⟩
  match d, ds, r, rs, g with
  | .lst es, [.lst fs], r, rs, g =>
    obtain ⟨u, rfl, rd⟩ := rs.at1
    obtain ⟨hp, hz, g⟩ := g
    cases r with
    | @lst l ys _ F e r9 =>
      cases rd with
      | @lst b zs _ G' e2 r2 =>
        obtain ⟨hG, r2⟩ := r2.pure hp
        obtain ⟨nl, nd⟩ := List.nodup_cons.mp nd
        have hlG : l ∉ ([] : List Addr) := fun h => nomatch h
        refine ⟨l, b, ys, zs, rfl, rfl, e, e2, by rw [r9.length, r2.length]; exact hz, ?_⟩
        refine q .non l _ .non _ (l :: F) List.mem_cons_self rfl (.lst upd_same ?_) (List.nodup_cons.mpr ⟨nl, nd⟩) (fun a ha => .inl ha) .non g
        have := (r9.upd (ob' := .lst (ys ++ zs)) e rfl nl).append (r2.upd (ob' := .lst (ys ++ zs)) e rfl hlG)
        simpa using this
end
end PV
set_option Elab.async false
set_option linter.all false
set_option maxRecDepth 100000
set_option maxHeartbeats 4000000
namespace PV
open PySem PySem.Spec L2
open Builtin.Str (glued tooLong subAt)
section
variable {X : Cx} {T : Tg} {m o m0 m1 m2 m3 m4 me o1 o2 : Bool} {e a b : Expr} {w wa wb we : WE} {pos p2 p : Pos} {es : List Expr} {wr : WA} {x y : Str} {wt : WT} {ws : WS}
end
end PV
set_option Elab.async false
set_option linter.all false
set_option maxRecDepth 100000
set_option maxHeartbeats 4000000
namespace PV
open PySem PySem.Spec L2
section
variable {X : Cx} {T : Tg} {m o m0 m1 m2 m3 o1 o2 : Bool} {e a b : Expr} {w wa wb we : WE} {pos p2 p : Pos} {es : List Expr} {wr : WA} {x y : Str}
def dSortDL : GA
  | [.dik kvs], k => ∃ ns : List Int, kvs.map (·.1) = ns.map Sum.inl ∧ kvs.length ≤ 100000 ∧ ∀ out : List Int, out.Perm ns → out.Pairwise (· ≤ ·) → k (.lst (out.map D.int))
  | _, _ => False
theorem cd_sortDL (hc : X.calm = true) : CallD X (.builtin "sorted") dSortDL := by
  refine ⟨_, call_sortDL hc, fun H ds xs F k Q r g q => ?_⟩
  match ds, r, g with
  | [.dik es], r, g =>
    obtain ⟨v, rfl, rd⟩ := r.at1
    obtain ⟨ns, hk, h64, g⟩ := g
    cases rd with
    | dik e r9 =>
      refine ⟨_, _, ns, rfl, .of e, by rw [r9.keys]; exact hk, by rw [r9.length]; exact h64, fun out D hp ho hD => ?_⟩
      exact q _ _ _ [D] ⟨same_upd hD, .lst upd_same (Reps.ints out), by simp, fun c m => by rw [List.mem_singleton.mp m]; exact hD⟩ (g out hp ho)
theorem r7_sortDL {kvs : List (Key × D)} {k : D → Prop} : dSortDL [.dik kvs] k = ∃ ns : List Int, kvs.map (·.1) = ns.map Sum.inl ∧ kvs.length ≤ 100000 ∧ ∀ out : List Int, out.Perm ns → out.Pairwise (· ≤ ·) → k (.lst (out.map D.int)) := rfl
end
end PV
set_option Elab.async false
set_option linter.all false
set_option maxRecDepth 100000
set_option maxHeartbeats 4000000
namespace PV
open PySem PySem.Spec L2 PyProof.Rows
section
variable {X : Cx} {T : Tg} {m o m0 m1 m2 m3 me o1 o2 : Bool} {e a b c : Expr} {w wa wb we : WE} {pos p2 p : Pos} {es : List Expr} {wr : WA} {x y : Str} {wt : WT} {ws : WS} {k : Nat} {ps : List Str} {tg : Expr}
theorem op_mulB : OpR X (binaryOp .Mult) (rI (fun i j => i.natAbs < 2 ^ 2000 ∧ j.natAbs < 2 ^ 2000) fun i j => .int (i * j)) := opI fun i j _ _ _ _ _ hc q =>
  mul_int q (IntMulOk.of_le (intBits_le_iff.mpr hc.1) (intBits_le_iff.mpr hc.2) (by decide))
def dMulB : G2
  | .int i, .int j, k => i.natAbs < 2 ^ 2000 ∧ j.natAbs < 2 ^ 2000 ∧ k (.int (i * j))
  | _, _, _ => False
theorem od_mulB : OpD X (binaryOp .Mult) dMulB := by
  refine ⟨_, op_mulB, fun H a b x y F1 F2 k Q ra rb g q => ?_⟩
  (cases ra <;> first | exact (show False from g).elim | skip) <;> (cases rb <;> first | exact (show False from g).elim | skip)
  exact ⟨_, _, rfl, rfl, ⟨g.1, g.2.1⟩, q _ _ _ _ (.flat (.int _)) g.2.2⟩
def rPopT : V → List V → Hp → VK → Prop := fun x vs H Q => ∃ a b kvs k v, x = .ref a ∧ vs = [.ref b] ∧ H a = some (.dT kvs) ∧ H b = some (.tup (k.map kV)) ∧ valV kvs k = some v ∧ Q v (upd H a (.dT (dropK kvs k)))
theorem mt_popT (hu : X.A.units + 1 < cLine) : MtM X "dict.pop" rPopT := by
  intro pins s σ H x vs v us Q I rx rv h
  obtain ⟨a, b, kvs, k, y, rfl, rfl, hH, hb, hv, q⟩ := h
  cases rx
  obtain ⟨u, rfl, ru⟩ := Vals.one rv
  cases ru
  exact d_popT hu I hH hb hv fun w' s' I' rw' => ⟨y, _, I', rw', q⟩
def gPopT : GM
  | .dit kvs, [.tup xs], k => oget (keysOf xs) fun ks => oget (valD kvs ks) fun d => d.pure = true ∧ k d (.dit (dropD kvs ks))
  | _, _, _ => False
theorem md_popT (hu : X.A.units + 1 < cLine) : MtD X "dict.pop" gPopT := by
  refine ⟨_, mt_popT hu, fun H d ds v xs F G k Q r nd rs ndG dis g q => ?_⟩
  match d, ds, r, rs, g with
  | .dit es, [.tup ys], r, rs, g =>
    obtain ⟨u, rfl, rd⟩ := rs.at1
    obtain ⟨ks, hks, g⟩ := oget_some g
    obtain ⟨d, hd, hp, g⟩ := oget_some g
    cases r with
    | @dit l kvs _ F e r9 =>
      cases rd with
      | @tup b us _ _ eb rb =>
        have hkv := rb.keys hks
        rcases r9.val ks with ⟨q1, _⟩ | ⟨d', v', B, q1, q2, q3, q4⟩
        · rw [q1] at hd; cases hd
        · rw [q1] at hd
          cases hd
          obtain ⟨hB, q3⟩ := q3.pure hp
          obtain ⟨nl, nd⟩ := List.nodup_cons.mp nd
          obtain ⟨G', rG, sG⟩ := r9.drop (k := ks)
          have nG : l ∉ G' := fun h => nl (sG.subset h)
          refine ⟨l, b, kvs, ks, v', rfl, rfl, e, by rw [← hkv]; exact eb, q2, ?_⟩
          refine q v' l _ d _ (l :: G') List.mem_cons_self rfl (.dit upd_same (rG.upd e rfl nG)) (List.nodup_cons.mpr ⟨nG, nd.sublist sG⟩) (fun a ha => ?_) (q3.upd e rfl (fun h => nomatch h)) g
          rcases List.mem_cons.mp ha with rfl | ha
          · exact .inl List.mem_cons_self
          · exact .inl (List.mem_cons_of_mem _ (sG.subset ha))
theorem iv_par {i : Nat} (ht : T.own i = false := by rfl) (hN : X.N[i]? = some x := by rfl) (hv : Vis X.env.scope x := by first | exact Or.inl rfl | exact Or.inr (Or.inl rfl) | exact Or.inr (Or.inr rfl)) (hd : (x == ("__debug__" : Str)) = false := by decide)
    (hcd : (x == ("__classdict__" : Str)) = false := by decide) : IV X T false true tg (.Name x p) (wSeqD (wVar i)) := by
  refine ⟨_, pi_seq (pe_var hN hv hd hcd), fun z R σ H W ρ Q RR s hw k => ?_⟩
  unfold wSeqD wVar at hw
  cases hl : look ρ i with
  | none => rw [hl] at hw; exact hw.elim
  | some d =>
  rw [hl] at hw
  have q := hw
  obtain ⟨fp, s0⟩ := id s
  obtain ⟨v, h1, r0⟩ := s0.at_ i d hl
  have nW : ∀ b ∈ fp i, ¬ W b := fun b hb hw => s0.wr b hw (s0.ro i d hl ht b hb)
  refine ⟨v, h1, ?_⟩
  cases d with
  | tup ds =>
    obtain ⟨hp, q⟩ := q
    obtain ⟨hF, rp⟩ := r0.pure (by simpa [D.pure] using hp)
    cases rp with
    | @tup a xs _ _ e1 r =>
      refine ⟨a, rfl, .inr ⟨⟨xs, .of e1⟩, k _ H W ds ρ ⟨s, FrW.refl H W, fun _ => ⟨Same.refl H, rfl, rfl⟩⟩ (fun i H2 W2 f => ?_) q⟩⟩
      have e2 : H2 a = some (.tup xs) := f.imm _ _ e1 rfl
      refine ⟨fun hi => ⟨xs, .of e2, by rw [r.length]; exact hi⟩, fun d hd => ?_⟩
      obtain ⟨x, B, hx, rx, sx⟩ := r.get hd
      refine ⟨⟨xs, x, .of e2, hx⟩, fun v H3 y => ?_⟩
      obtain ⟨rfl, y⟩ := y
      have := y xs (.of e2)
      rw [hx] at this
      cases this
      exact ⟨Same.refl _, B, rx.keep f (fun a ha => (nomatch sx.subset ha)), (fun a ha => (nomatch sx.subset ha))⟩
  | lst ds =>
    generalize hfp : fp i = G at r0 nW
    cases r0 with
    | @lst a xs _ F e1 r =>
      refine ⟨a, rfl, .inl ⟨⟨xs, .of e1⟩, k _ H W ds ρ ⟨s, FrW.refl H W, fun _ => ⟨Same.refl H, rfl, rfl⟩⟩ (fun i H2 W2 f => ?_) q⟩⟩
      rw [wz_true] at f
      have e2 : H2 a = some (.lst xs) := f.keep _ _ e1 (nW a List.mem_cons_self)
      refine ⟨fun hi => ⟨xs, .of e2, by rw [r.length]; exact hi⟩, fun d hd => ?_⟩
      obtain ⟨x, B, hx, rx, sx⟩ := r.get hd
      refine ⟨⟨xs, x, .of e2, hx⟩, fun v H3 y => ?_⟩
      obtain ⟨rfl, y⟩ := y
      have := y xs (.of e2)
      rw [hx] at this
      cases this
      refine ⟨Same.refl _, B, rx.keep f fun b hb => nW b (List.mem_cons_of_mem _ (sx.subset hb)), fun b hb hw => ?_⟩
      have hb' : b ∈ a :: F := List.mem_cons_of_mem _ (sx.subset hb)
      rcases f.new b hw with h | h
      · exact nW b hb' h
      · obtain ⟨ob, e3, _⟩ := rx.dom b hb
        rw [h] at e3; cases e3
  | _ => exact (show False from q).elim
def rngS (lo c : Int) (n : Nat) : List D := (List.range n).map fun (i : Nat) => .int (lo + (i : Int) * c)
theorem rngS_length {lo c : Int} {n : Nat} : (rngS lo c n).length = n := by simp [rngS]
theorem rngS_get {lo c : Int} {n i : Nat} {d : D} (h : (rngS lo c n)[i]? = some d) : i < n ∧ d = .int (lo + (i : Int) * c) := by
  unfold rngS at h
  rw [List.getElem?_map] at h
  obtain ⟨j, hj, rfl⟩ := Option.map_eq_some_iff.mp h
  obtain ⟨h1, h2⟩ := List.getElem?_eq_some_iff.mp hj
  rw [List.length_range] at h1
  rw [List.getElem_range] at h2
  subst h2
  exact ⟨h1, rfl⟩
theorem pure_rngS {lo c : Int} {n : Nat} : pureL (rngS lo c n) = true := pureL_iff.mpr fun d hd => by
  obtain ⟨i, _, rfl⟩ := List.mem_map.mp hd
  rfl
theorem jd_rangeS {K : PySem.W.Frag} {H : Hp} {W : Addr → Prop} {lo c : Int} {n : Nat} : JD K (ItrS lo c n) H W (rngS lo c n) := fun i H1 W1 fr => by
  refine ⟨fun h => ?_, fun d hd => ?_⟩
  · rw [rngS_length] at h; exact h
  · obtain ⟨h1, rfl⟩ := rngS_get hd
    refine ⟨h1, fun v H2 y => ?_⟩
    obtain ⟨rfl, rfl⟩ := y
    exact ⟨Same.refl _, [], .int _, fun a m => nomatch m⟩
def wRng3 (wr : WA) : WL := fun ρ Q => wr ρ fun ds ρ' => match ds with
  | [.int i, .int j, .int c] => (-(2 ^ 60) ≤ i ∧ i < 2 ^ 60 ∧ -(2 ^ 60) ≤ j ∧ j < 2 ^ 60) ∧ (c = 2 ∨ c = 3) ∧ Q (rngS i c (stepN i j c)) ρ'
  | _ => False
theorem iv_range3 (hm : X.mg "range" = none) (ha : AV X T m o [a, b, c] wr) (hg : Gl X "range" := by rfl) (hs : starEach [a, b, c] X.env = [(false, eval a X.env), (false, eval b X.env), (false, eval c X.env)] := by rfl) (hs2 : starEach [b, c] X.env = [(false, eval b X.env), (false, eval c X.env)] := by rfl) : IV X T m true tg (.Call (.Name "range" p) [a, b, c] [] pos) (wRng3 wr) := by
  obtain ⟨ta, pa, ga⟩ := ha
  refine ⟨_, pi_range3 hg hm pa hs hs2, fun z R σ H W ρ Q RR s hw k => ?_⟩
  refine ga z R σ H W ρ _ _ s hw fun vs H1 W1 ds ρ1 F p q => ?_
  match ds, p, q with
  | [.int i, .int j, .int c], p, q =>
    have rp := p.rep
    cases rp with
    | cons r1 rp =>
      cases rp with
      | cons r2 rp =>
        cases rp with
        | cons r3 rp =>
          cases rp
          cases r1; cases r2; cases r3
          exact ⟨i, j, c, rfl, q.1, q.2.1, k _ H1 W1 _ ρ1 ⟨p.sr, p.fr, p.calm⟩ jd_rangeS q.2.2⟩
def revOf (ds : List D) (k : List D → Prop) : Prop := match ds with
  | [.tup xs] => pureL xs = true ∧ k xs.reverse
  | _ => False
def wRev (wr : WA) : WL := fun ρ Q => wr ρ fun ds ρ' => revOf ds fun l => Q l ρ'
theorem iv_rev (hm : X.mg "reversed" = none) (ha : AV X T m o [a] wr) (hg : Gl X "reversed" := by rfl) (hs : starEach [a] X.env = [(false, eval a X.env)] := by rfl) : IV X T m true tg (.Call (.Name "reversed" p) [a] [] pos) (wRev wr) := by
  obtain ⟨ta, pa, ga⟩ := ha
  refine ⟨_, pi_rev hg hm pa hs, fun z R σ H W ρ Q RR s hw k => ?_⟩
  refine ga z R σ H W ρ _ _ s hw fun vs H1 W1 ds ρ1 F p q => ?_
  have rp := p.rep
  match ds, rp, q with
  | [.tup xs], rp, q =>
    obtain ⟨hp1, q⟩ := q
    obtain ⟨v, rfl, r1⟩ := rp.at1
    cases r1 with
    | @tup a1 us1 _ _ e1 q1 =>
      obtain ⟨-, q1⟩ := q1.pure hp1
      have l1 := q1.length
      refine ⟨a1, us1, rfl, .of e1, k _ H1 W1 xs.reverse ρ1 ⟨p.sr, p.fr, p.calm⟩ (fun i H2 W2 fr => ?_) q⟩
      have e1' : H2 a1 = some (.tup us1) := fr.imm a1 _ e1 rfl
      refine ⟨fun hi => ?_, fun d hd => ?_⟩
      · rw [List.length_reverse] at hi
        show us1.length ≤ i
        omega
      · have hi : i < xs.length := by
          have := (List.getElem?_eq_some_iff.mp hd).1
          rwa [List.length_reverse] at this
        rw [List.getElem?_reverse hi] at hd
        obtain ⟨v1, B1, g1, g2, g3⟩ := q1.get hd
        have := List.sublist_nil.mp g3
        subst this
        rw [← l1] at g1
        refine ⟨⟨us1, v1, .of e1', rfl, by omega, g1⟩, fun v H3 yl => ?_⟩
        obtain ⟨rfl, h2⟩ := yl
        have := h2 us1 (.of e1')
        rw [g1] at this
        cases this
        exact ⟨Same.refl _, [], g2.keep fr (fun a m => nomatch m), fun a m => nomatch m⟩
end
section
variable {i j : Int} {k : D → Prop} {kk : D → D → Prop} {kvs : List (List Key × D)} {xs : List D}
theorem sz0 : (0 ≤ sizeLine) = True := propext ⟨fun _ => trivial, fun _ => by decide⟩
theorem sz2 : (2 ≤ sizeLine) = True := propext ⟨fun _ => trivial, fun _ => by decide⟩
theorem sz4 : (4 ≤ sizeLine) = True := propext ⟨fun _ => trivial, fun _ => by decide⟩
theorem r8_mulB : dMulB (.int i) (.int j) k = (i.natAbs < 2 ^ 2000 ∧ j.natAbs < 2 ^ 2000 ∧ k (.int (i * j))) := rfl
def rng3Of (ds : List D) (k : List D → Prop) : Prop := match ds with
  | [.int i, .int j, .int c] => (-(2 ^ 60) ≤ i ∧ i < 2 ^ 60 ∧ -(2 ^ 60) ≤ j ∧ j < 2 ^ 60) ∧ (c = 2 ∨ c = 3) ∧ k (rngS i c (stepN i j c))
  | _ => False
theorem r8_rng3 {wr : WA} {ρ : Env} {Q : List D → Env → Prop} : wRng3 wr ρ Q = wr ρ fun ds ρ' => rng3Of ds fun l => Q l ρ' := rfl
theorem r8_rng3I {i j c : Int} {k : List D → Prop} : rng3Of [.int i, .int j, .int c] k = ((-(2 ^ 60) ≤ i ∧ i < 2 ^ 60 ∧ -(2 ^ 60) ≤ j ∧ j < 2 ^ 60) ∧ (c = 2 ∨ c = 3) ∧ k (rngS i c (stepN i j c))) := rfl
theorem r8_rev {xs : List D} {k : List D → Prop} : revOf [.tup xs] k = (pureL xs = true ∧ k xs.reverse) := rfl
end
end PV
set_option Elab.async false
set_option linter.all false
set_option maxRecDepth 100000
set_option maxHeartbeats 4000000
namespace L2
open PySem PySem.Spec PyProof.Rows
section
variable {X : Cx} {e : Expr} {te : TE}
def tFrz (te : TE) : TE := fun σ H Q => te σ H fun v H1 => ∃ a xs, v = .ref a ∧ H1 a = some (.lst xs) ∧ ∀ o, Q v (upd H1 a (.frz o (.lst xs)))
theorem pe_frz (he : PE X e te) : PE X e (tFrz te) := by
  intro pins s σ H Q I h
  refine thn (he pins s σ H _ I h) fun v s1 ⟨x, H1, I1, r1, q⟩ => ?_
  obtain ⟨a, xs, rfl, ha, q⟩ := q
  obtain ⟨z, its, n, rv, hob⟩ := (show ObjOk X.prog X.w H1 s1.heap a (.lst xs) from I1.hok a _ ha)
  exact ⟨.ref a, _, I1.write (x := a) (e := a) (o := .frz _ (.lst xs)) (t' := s1.toks) (by rw [ha]; trivial) (.inl rfl) (fun b u _ q => q) ⟨_, hob⟩ (show ObjOk X.prog X.w _ s1.heap a (.frz _ (.lst xs)) from ⟨hob, z, its, n, rv, hob⟩), r1, q _⟩
end
end L2
namespace PV
open PySem PySem.Spec L2 PyProof.Rows
section
variable {X : Cx} {T : Tg} {m o : Bool} {e : Expr} {w : WE} {tg : Expr}
def frzOf (d : D) (k : D → Prop) : Prop := match d with
  | .lst xs => pureL xs = true ∧ k (.fls xs)
  | _ => False
def wFrz (w : WE) : WE := fun ρ Q => w ρ fun d ρ' => frzOf d fun d' => Q d' ρ'
theorem ev_frz (h : EV X T m true e w) : EV X T m true e (wFrz w) := by
  obtain ⟨te, pe, ge⟩ := h
  refine ⟨_, pe_frz pe, fun z R σ H W ρ Q Q' s hw k => ?_⟩
  refine ge z R σ H W ρ _ _ s hw fun v H1 W1 d ρ1 F p q => ?_
  cases d with
  | lst xs =>
    obtain ⟨hp, q⟩ := q
    obtain ⟨sr, fr, calm, rep, own⟩ := p
    obtain ⟨nd, own⟩ := own rfl
    cases rep with
    | @lst a ys _ G e1 r =>
      obtain ⟨hG, r⟩ := r.pure hp
      subst hG
      obtain ⟨ha, hW⟩ := own a List.mem_cons_self
      have hR : ¬ R a := s.nr ha
      refine ⟨a, ys, rfl, e1, fun ob => ?_⟩
      have im : ImmK H1 (upd H1 a (.frz ob (.lst ys))) := imm_upd e1 rfl
      have ne : ∀ {b : Addr} {u : HO}, H b = some u → b ≠ a := fun {b u} hb z => by rw [z, ha] at hb; cases hb
      have sr' : SR X.K T z R (upd H1 a (.frz ob (.lst ys))) W1 σ ρ1 := by
        obtain ⟨fp, s0⟩ := sr
        have off : ∀ i d, look ρ1 i = some d → ∀ b ∈ fp i, b ≠ a := fun i d hl b hb hz => by
          subst hz
          cases ht : T.own i with
          | true => exact hW ((s0.own i d hl ht).2 b hb)
          | false => exact hR (s0.ro i d hl ht b hb)
        refine ⟨fp, s0.len, fun b hb => ?_, fun i d hl => ?_, s0.own, s0.ro, s0.wr, fun b hb => ?_, s0.dis, s0.fix⟩
        · obtain ⟨u, h1, h2⟩ := s0.wd b hb
          exact ⟨u, by rw [upd_ne (show b ≠ a from fun hz => hW (by rw [← hz]; exact hb))]; exact h1, h2⟩
        · obtain ⟨v, h1, h2⟩ := s0.at_ i d hl
          exact ⟨v, h1, h2.frame im fun b hb => upd_ne (off i d hl b hb)⟩
        · obtain ⟨u, h1, h2⟩ := s0.rd b hb
          exact ⟨u, by rw [upd_ne (show b ≠ a from fun hz => hR (by rw [← hz]; exact hb))]; exact h1, h2⟩
      have fr' : FrW H W (upd H1 a (.frz ob (.lst ys))) W1 := by
        refine ⟨fun b u hb hn => ?_, fun b hb => ?_, fun b u hb hi => ?_, fr.new⟩
        · rw [upd_ne (ne hb)]; exact fr.keep b u hb hn
        · by_cases hz : b = a
          · rw [hz]; exact ha
          · rw [upd_ne hz] at hb; exact fr.dom b hb
        · rw [upd_ne (ne hb)]; exact fr.imm b u hb hi
      refine k _ _ W1 (.fls xs) ρ1 [] ⟨sr', fr', fun hm => ?_, .fls upd_same (r.frame im fun b hb => nomatch hb), fun _ => ⟨List.nodup_nil, fun b hb => nomatch hb⟩⟩ q
      obtain ⟨c1, c2, c3⟩ := calm hm
      exact ⟨fun b u hb => by rw [upd_ne (ne hb)]; exact c1 b u hb, c2, c3⟩
  | _ => exact (show False from q).elim
def flsOf (d : D) (k : List D → Prop) : Prop := match d with
  | .fls ds => k ds
  | _ => False
def wSeqF (w : WE) : WL := fun ρ Q => w ρ fun d ρ' => flsOf d fun ds => Q ds ρ'
theorem iv_fls (h : EV X T m o e w) : IV X T m true tg e (wSeqF w) := by
  obtain ⟨te, pe, ge⟩ := h
  refine ⟨_, pi_seq pe, fun z R σ H W ρ Q RR s hw k => ?_⟩
  refine ge z R σ H W ρ _ _ s hw fun v H1 W1 d ρ1 F p q => ?_
  cases d with
  | fls ds =>
    obtain ⟨p1, p2, p3, p4, p5⟩ := p
    cases p4 with
    | @fls a ob xs _ e1 r =>
      have fz : FzL X.K H1 a xs := .inl ⟨ob, e1⟩
      refine ⟨a, rfl, .inl ⟨⟨xs, fz.sq⟩, k _ H1 W1 ds ρ1 ⟨p1, p2, p3⟩ (fun i H2 W2 f => ?_) q⟩⟩
      have e2 := f.imm.fzL fz
      refine ⟨fun hi => ⟨xs, e2.sq, by rw [r.length]; exact hi⟩, fun d hd => ?_⟩
      obtain ⟨x, B, hx, rx, sx⟩ := r.get hd
      refine ⟨⟨xs, x, e2.sq, hx⟩, fun v H3 y => ?_⟩
      obtain ⟨rfl, y⟩ := y
      have := y xs e2.sq
      rw [hx] at this
      cases this
      exact ⟨Same.refl _, B, rx.keep f (fun a ha => (nomatch sx.subset ha)), (fun a ha => (nomatch sx.subset ha))⟩
  | _ => exact (show False from q).elim
theorem SR0.freezeL {K : PySem.W.Frag} {z : Nat → V} {R : Addr → Prop} {H : Hp} {W : Addr → Prop} {σ : L2.St} {ρ : Env} {fp : Nat → List Addr} {s : Nat} {ds : List D} {a : Addr} {kvs : List V} {ob : Obj} (h : SR0 K T z R H W σ ρ fp)
    (hl : look ρ s = some (.lst ds)) (ht : T.own s = true) (hv : σ[s]? = some (some (.ref a))) (e : H a = some (.lst kvs)) (r : Reps K H ds kvs []) (hF : fp s = [a]) :
    SR K T z R (upd H a (.frz ob (.lst kvs))) (fun b => W b ∧ b ≠ a) σ (ρ.set s (some (.fls ds))) := by
  obtain ⟨nd, sw⟩ := h.own s _ hl ht
  rw [hF] at nd sw
  obtain ⟨na, ndF⟩ := List.nodup_cons.mp nd
  have hWa := sw a List.mem_cons_self
  have hRa : ¬ R a := h.wr a hWa
  have hi : ImmK H (upd H a (.frz ob (.lst kvs))) := imm_upd e rfl
  have notin : ∀ j d, look ρ j = some d → j ≠ s → a ∉ fp j := fun j d hj hne ha => by
    cases hto : T.own j with
    | true => exact h.dis s j _ d hl hj ht hto (fun z => hne z.symm) a (by rw [hF]; exact List.mem_cons_self) ha
    | false => exact hRa (h.ro j d hj hto a ha)
  refine ⟨fun j => if j = s then [] else fp j, ?_, ?_, ?_, ?_, ?_, ?_, ?_, ?_, h.fix⟩
  · rw [List.length_set]; exact h.len
  · rintro b ⟨hb, hne⟩
    rw [upd_ne hne]; exact h.wd b hb
  · intro j d hj
    by_cases hjs : j = s
    · subst hjs
      rw [look_set_same (look_lt hl)] at hj
      cases hj
      exact ⟨_, hv, by rw [if_pos rfl]; exact .fls upd_same (r.upd e rfl (fun h => nomatch h))⟩
    · rw [look_set_ne hjs] at hj
      obtain ⟨u, h1, h2⟩ := h.at_ j d hj
      refine ⟨u, h1, ?_⟩
      rw [if_neg hjs]
      exact h2.frame hi fun b hb => upd_ne fun z => notin j d hj hjs (z ▸ hb)
  · intro j d hj hto
    by_cases hjs : j = s
    · subst hjs
      simp only [if_pos]
      exact ⟨List.nodup_nil, fun b hb => nomatch hb⟩
    · rw [look_set_ne hjs] at hj
      simp only [if_neg hjs]
      exact ⟨(h.own j d hj hto).1, fun b hb => ⟨(h.own j d hj hto).2 b hb, fun z => notin j d hj hjs (z ▸ hb)⟩⟩
  · intro j d hj hto
    have hjs : j ≠ s := fun z => by subst z; rw [ht] at hto; cases hto
    rw [look_set_ne hjs] at hj
    simp only [if_neg hjs]
    exact h.ro j d hj hto
  · exact fun b hb hr => h.wr b hb.1 hr
  · intro b hr
    rw [upd_ne (show b ≠ a from fun z => hRa (z ▸ hr))]; exact h.rd b hr
  · intro j k d d' hj hk tj tk hne b hb hb'
    by_cases hjs : j = s
    · subst hjs
      have hkj : k ≠ j := fun z => hne z.symm
      rw [look_set_ne hkj] at hk
      simp only [if_pos, if_neg hkj] at hb hb'
      exact nomatch hb
    · rw [look_set_ne hjs] at hj
      simp only [if_neg hjs] at hb
      by_cases hks : k = s
      · subst hks
        simp only [if_pos] at hb'
        exact nomatch hb'
      · rw [look_set_ne hks] at hk
        simp only [if_neg hks] at hb'
        exact h.dis j k d d' hj hk tj tk hne b hb hb'
def lsfOf (d : D) (k : List D → Prop) : Prop := match d with
  | .lst ds => pureL ds = true ∧ k ds
  | _ => False
def wSeqS (s : Nat) : WL := fun ρ Q => oget (look ρ s) fun c => lsfOf c fun ds => Q ds (ρ.set s (some (.fls ds)))
theorem iv_seqS {s : Nat} {x : Str} {p : Pos} (ht : T.own s = true := by rfl) (hN : X.N[s]? = some x := by rfl) (hv : Vis X.env.scope x := by first | exact Or.inl rfl | exact Or.inr (Or.inl rfl) | exact Or.inr (Or.inr rfl)) (hd : (x == ("__debug__" : Str)) = false := by decide)
    (hcd : (x == ("__classdict__" : Str)) = false := by decide) : IV X T true true tg (.Name x p) (wSeqS s) := by
  refine ⟨_, pi_seq (pe_frz (pe_var hN hv hd hcd)), fun z R σ H W ρ Q RR sr hw k => ?_⟩
  obtain ⟨c, hl, hw⟩ := oget_some hw
  match c, hl, hw with
  | .lst ds, hl, hw =>
  obtain ⟨hp, hw⟩ := hw
  obtain ⟨fp, s0⟩ := id sr
  obtain ⟨v, hv0, r0⟩ := s0.at_ s _ hl
  obtain ⟨a, ys, rfl, e, r, hF⟩ : ∃ (a : Addr) (ys : List V), v = .ref a ∧ H a = some (.lst ys) ∧ Reps X.K H ds ys [] ∧ fp s = [a] := by
    generalize fp s = Fi at r0
    cases r0 with
    | @lst a ys _ F e1 r =>
      obtain ⟨hG, r⟩ := r.pure hp
      exact ⟨a, ys, rfl, e1, r, by rw [hG]⟩
  have hWa : W a := (s0.own s _ hl ht).2 a (by rw [hF]; exact List.mem_cons_self)
  refine ⟨_, hv0, a, ys, rfl, e, fun ob => ⟨a, rfl, .inl ⟨⟨ys, .inl (.inr ⟨ob, upd_same⟩)⟩, k _ _ (fun b => W b ∧ b ≠ a) ds _ ⟨s0.freezeL hl ht hv0 e r hF, ⟨fun b u eb nb => ?_, fun b eb => ?_, imm_upd e rfl, fun b hb => .inl hb.1⟩, fun h => nomatch h⟩ ?_ hw⟩⟩⟩
  · rw [upd_ne (show b ≠ a from fun z => nb (by rw [z]; exact hWa))]; exact eb
  · by_cases hb : b = a
    · rw [hb, upd_same] at eb; cases eb
    · rw [upd_ne hb] at eb; exact eb
  · rw [wz_true]
    intro i H2 W2 f
    have fz : FzL X.K (upd H a (.frz ob (.lst ys))) a ys := .inl ⟨ob, upd_same⟩
    have r' : Reps X.K (upd H a (.frz ob (.lst ys))) ds ys [] := r.upd e rfl (fun h => nomatch h)
    have e2 := f.imm.fzL fz
    refine ⟨fun hi => ⟨ys, e2.sq, by rw [r.length]; exact hi⟩, fun d hd => ?_⟩
    obtain ⟨x, B, hx, rx, sx⟩ := r'.get hd
    refine ⟨⟨ys, x, e2.sq, hx⟩, fun v H3 y => ?_⟩
    obtain ⟨rfl, y⟩ := y
    have := y ys e2.sq
    rw [hx] at this
    cases this
    exact ⟨Same.refl _, B, rx.keep f (fun a ha => (nomatch sx.subset ha)), (fun a ha => (nomatch sx.subset ha))⟩
theorem r9_lst {xs : List D} {k : List D → Prop} : lsfOf (.lst xs) k = (pureL xs = true ∧ k xs) := rfl
theorem r9_frz {xs : List D} {k : D → Prop} : frzOf (.lst xs) k = (pureL xs = true ∧ k (.fls xs)) := rfl
theorem r9_fls {xs : List D} {k : List D → Prop} : flsOf (.fls xs) k = k xs := rfl
end
end PV
set_option Elab.async false
set_option linter.all false
set_option maxRecDepth 100000
set_option maxHeartbeats 4000000
namespace PV
open PySem PySem.Spec L2
theorem atI_ofNat {α : Type} (xs : List α) (j : Nat) : L2.atI xs (j : Int) = xs[j]? := by
  unfold L2.atI ixN
  rw [if_pos (by omega)]
  by_cases h : j < xs.length
  · rw [if_pos (by omega)]; simp
  · rw [if_neg (by omega)]; simp; omega
theorem atI_0 {α : Type} (xs : List α) : L2.atI xs 0 = xs[0]? := atI_ofNat xs 0
theorem atI_1 {α : Type} (xs : List α) : L2.atI xs 1 = xs[1]? := atI_ofNat xs 1
theorem atI_2 {α : Type} (xs : List α) : L2.atI xs 2 = xs[2]? := atI_ofNat xs 2
theorem atI_3 {α : Type} (xs : List α) : L2.atI xs 3 = xs[3]? := atI_ofNat xs 3
theorem ixN_ofNat {n j : Nat} (h : j < n) : ixN n (j : Int) = some j := by
  unfold ixN
  rw [if_pos (by omega), if_pos (by omega)]; simp
theorem ixN_0 {n : Nat} (h : 0 < n) : ixN n 0 = some 0 := ixN_ofNat h
theorem ixN_1 {n : Nat} (h : 1 < n) : ixN n 1 = some 1 := ixN_ofNat h
theorem ixN_2 {n : Nat} (h : 2 < n) : ixN n 2 = some 2 := ixN_ofNat h
theorem ixN_3 {n : Nat} (h : 3 < n) : ixN n 3 = some 3 := ixN_ofNat h
theorem seqIx_ofNat {n j : Nat} (h : j < n) : seqIndex? (j : Int) n = some j := (ixN_seq (ixN_ofNat h)).1
theorem seqIx_0 {n : Nat} (h : 0 < n) : seqIndex? 0 n = some 0 := seqIx_ofNat h
theorem oget_s {α : Type} {d : α} {k : α → Prop} : oget (some d) k = k d := rfl
theorem r_var {i : Nat} {ρ : Env} {Q : D → Env → Prop} : wVar i ρ Q = oget (look ρ i) fun d => Q d ρ := by
  unfold wVar oget
  cases look ρ i <;> rfl
section
variable {i j : Int} {x y : Str} {xs ys : List D} {k : D → Prop} {b c : Bool} {d e : D} {kvs : List (Key × D)} {kts : List (List Key × D)}
theorem r_add : dAdd (.int i) (.int j) k = k (.int (i + j)) := rfl
theorem r_addS : dAdd (.str x) (.str y) k = (x.length + y.length ≤ sizeLine ∧ k (.str (x ++ y))) := rfl
theorem r_addT : dAdd (.tup xs) (.tup ys) k = (pureL xs = true ∧ pureL ys = true ∧ xs ≠ [] ∧ xs.length + ys.length ≤ sizeLine ∧ k (.tup (xs ++ ys))) := rfl
theorem r_addL : dAdd (.lst xs) (.lst ys) k = (pureL xs = true ∧ pureL ys = true ∧ xs.length + ys.length ≤ sizeLine ∧ k (.lst (xs ++ ys))) := rfl
theorem r_sub : dSub (.int i) (.int j) k = k (.int (i - j)) := rfl
theorem r_mul : dMul (.int i) (.int j) k = (CMul i j ∧ k (.int (i * j))) := rfl
theorem r_mulL : dMul (.lst xs) (.int j) k = (pureL xs = true ∧ -(2 ^ 63) ≤ j ∧ j < 2 ^ 63 ∧ xs.length * j.toNat ≤ sizeLine ∧ k (.lst (List.replicate j.toNat xs).flatten)) := rfl
theorem r_div : dDiv (.int i) (.int j) k = ((0 < j ∧ j < 1073741824 ∧ k (.int (i / j))) ∨ (j < 0 ∧ j.natAbs < 1073741824 ∧ k (.int (i.fdiv j)))) := rfl
theorem r_mod : dMod (.int i) (.int j) k = ((0 < j ∧ k (.int (i % j))) ∨ (j < 0 ∧ k (.int (i.fmod j)))) := rfl
theorem r_pow : dPow (.int i) (.int j) k = (CPow i j ∧ k (.int (i ^ j.toNat))) := rfl
theorem r_neg : dNeg (.int i) k = k (.int (-i)) := rfl
theorem r_eqI : dEq (.int i) (.int j) k = k (.bl (decide (i = j))) := rfl
theorem r_neI : dNe (.int i) (.int j) k = k (.bl (!decide (i = j))) := rfl
theorem r_eqB : dEq (.bl b) (.bl c) k = k (.bl (b == c)) := rfl
theorem r_neB : dNe (.bl b) (.bl c) k = k (.bl (!(b == c))) := rfl
theorem r_eqS : dEq (.str x) (.str y) k = k (.bl (decide (x = y))) := rfl
theorem r_neS : dNe (.str x) (.str y) k = k (.bl (!decide (x = y))) := rfl
theorem r_eqT : dEq (.tup xs) d k = (eqOk 9 (.tup xs) = true ∧ eqOk 9 d = true ∧ (.tup xs = d → k (.bl true)) ∧ (.tup xs ≠ d → k (.bl false))) := by cases d <;> rfl
theorem r_neT : dNe (.tup xs) d k = (eqOk 9 (.tup xs) = true ∧ eqOk 9 d = true ∧ (.tup xs = d → k (.bl false)) ∧ (.tup xs ≠ d → k (.bl true))) := by cases d <;> rfl
theorem r_eqL : dEq (.lst xs) d k = (eqOk 9 (.lst xs) = true ∧ eqOk 9 d = true ∧ (.lst xs = d → k (.bl true)) ∧ (.lst xs ≠ d → k (.bl false))) := by cases d <;> rfl
theorem r_neL : dNe (.lst xs) d k = (eqOk 9 (.lst xs) = true ∧ eqOk 9 d = true ∧ (.lst xs = d → k (.bl false)) ∧ (.lst xs ≠ d → k (.bl true))) := by cases d <;> rfl
theorem r_cmp {f : Int → Int → Bool} : dCmp f (.int i) (.int j) k = k (.bl (f i j)) := rfl
theorem r_ixL : dIx (.lst xs) (.int i) k = oget (L2.atI xs i) k := rfl
theorem r_ixT : dIx (.tup xs) (.int i) k = oget (L2.atI xs i) k := rfl
theorem r_ixK : dIx (.kls xs) (.int i) k = oget (L2.atI xs i) k := rfl
theorem r_ixDi : dIx (.dik kvs) (.int i) k = oget (valD kvs (.inl i)) k := rfl
theorem r_ixDs : dIx (.dik kvs) (.str x) k = oget (valD kvs (.inr x)) k := rfl
theorem r_ixDt : dIx (.dit kts) (.tup xs) k = oget (keysOf xs) fun ks => oget (valD kts ks) k := rfl
theorem r_lenL : dLen [.lst xs] k = k (.int xs.length) := rfl
theorem r_lenT : dLen [.tup xs] k = k (.int xs.length) := rfl
theorem r_lenK : dLen [.kls xs] k = k (.int xs.length) := rfl
theorem r_lenD : dLen [.dik kvs] k = k (.int kvs.length) := rfl
theorem r_int : dInt [.int i] k = k (.int i) := rfl
theorem r_intB : dInt [.bl b] k = k (.int (if b then 1 else 0)) := rfl
theorem r_abs : dAbs [.int i] k = k (.int (if i < 0 then -i else i)) := rfl
theorem r_min : dMin2 [.int i, .int j] k = k (.int (if j < i then j else i)) := rfl
theorem r_max : dMax2 [.int i, .int j] k = k (.int (if j > i then j else i)) := rfl
theorem r_listL : dList [.lst xs] k = (pureL xs = true ∧ k (.lst xs)) := rfl
theorem r_listT : dList [.tup xs] k = (pureL xs = true ∧ k (.lst xs)) := rfl
theorem r_listK : dList [.kls xs] k = (pureL xs = true ∧ k (.lst xs)) := rfl
theorem r_tupL : dTuple [.lst xs] k = (pureL xs = true ∧ k (.tup xs)) := rfl
theorem r_tupT : dTuple [.tup xs] k = (pureL xs = true ∧ k (.tup xs)) := rfl
theorem r_range : dRange [.int i] k = (0 ≤ i ∧ i ≤ 1000 ∧ k (.lst (rngD 0 i.toNat))) := rfl
theorem r_isi {t : Ty} : dIsi [d, .ty t] k = oget (isiD d t) fun b => k (.bl b) := rfl
theorem r_slL {lo hi : Option Int} : dSl (.lst xs) lo hi k = (pureL xs = true ∧ k (.lst (cutD xs lo hi))) := rfl
theorem r_slK {lo hi : Option Int} : dSl (.kls xs) lo hi k = (pureL xs = true ∧ k (.lst (cutD xs lo hi))) := rfl
theorem r_slT {lo hi : Option Int} : dSl (.tup xs) lo hi k = (pureL xs = true ∧ ¬ (HT.sIx xs.length 0 lo = 0 ∧ HT.sIx xs.length xs.length hi = xs.length) ∧ k (.tup (cutD xs lo hi))) := rfl
theorem r_setL : dSet (.lst xs) (.int i) d k = oget (ixN xs.length i) fun n => k (.lst (xs.set n d)) := rfl
theorem r_setDi : dSet (.dik kvs) (.int i) d k = (kvs.length < sizeLine ∧ k (.dik (putD kvs (.inl i) d))) := rfl
theorem r_setDs : dSet (.dik kvs) (.str x) d k = (kvs.length < sizeLine ∧ k (.dik (putD kvs (.inr x) d))) := rfl
theorem r_setDt : dSet (.dit kts) (.tup xs) d k = (kts.length < sizeLine ∧ oget (keysOf xs) fun ks => k (.dit (putD kts ks d))) := rfl
theorem r_inDi {n : Bool} : dIn n (.int i) (.dik kvs) k = k (.bl (xor n (valD kvs (.inl i)).isSome)) := rfl
theorem r_inDs {n : Bool} : dIn n (.str x) (.dik kvs) k = k (.bl (xor n (valD kvs (.inr x)).isSome)) := rfl
theorem r_inDt {n : Bool} : dIn n (.tup xs) (.dit kts) k = oget (keysOf xs) fun ks => k (.bl (xor n (valD kts ks).isSome)) := rfl
theorem r_inS {n : Bool} : dIn n (.str x) (.str y) k = k (.bl (xor n (!(Builtin.Str.occurrences y x 0 y.length 1).isEmpty))) := rfl
variable {kk : D → D → Prop}
theorem r_app : gAppend (.lst xs) [d] kk = (xs.length < sizeLine ∧ kk .non (.lst (xs ++ [d]))) := rfl
theorem r_popAt : gPopAt (.lst xs) [.int i] kk = (-(2 ^ 63) ≤ i ∧ i < 2 ^ 63 ∧ oget (seqIndex? i xs.length) fun j => oget xs[j]? fun d => d.pure = true ∧ kk d (.lst (xs.eraseIdx j))) := rfl
theorem r_pop : gPop (.lst xs) [] kk = oget xs[xs.length - 1]? fun d => d.pure = true ∧ kk d (.lst xs.dropLast) := rfl
theorem r_clear : gClear (.lst xs) [] kk = kk .non (.lst []) := rfl
variable {ρ : Env} {w : WE} {QE : D → Env → Prop} {QL : List D → Env → Prop} {QB : Bool → Env → Prop}
end
section
variable {i j : Int} {k : D → Prop}
theorem r_divP (h : 0 < j) (h2 : j < 1073741824) : dDiv (.int i) (.int j) k = k (.int (i / j)) := by
  rw [r_div]
  apply propext
  exact ⟨fun q => q.elim (fun z => z.2.2) (fun z => absurd z.1 (by omega)), fun q => .inl ⟨h, h2, q⟩⟩
theorem r_modP (h : 0 < j) : dMod (.int i) (.int j) k = k (.int (i % j)) := by
  rw [r_mod]
  apply propext
  exact ⟨fun q => q.elim (fun z => z.2) (fun z => absurd z.1 (by omega)), fun q => .inl ⟨h, q⟩⟩
theorem r_mulA (h : -18446744073709551616 < i) (h2 : i < 18446744073709551616) : dMul (.int i) (.int j) k = k (.int (i * j)) := by
  rw [r_mul]
  exact propext ⟨fun q => q.2, fun q => ⟨.inl ⟨by omega, by omega⟩, q⟩⟩
theorem r_mulB (h : -18446744073709551616 < j) (h2 : j < 18446744073709551616) : dMul (.int i) (.int j) k = k (.int (i * j)) := by
  rw [r_mul]
  exact propext ⟨fun q => q.2, fun q => ⟨.inr ⟨by omega, by omega⟩, q⟩⟩
theorem r_powP (h : 0 ≤ j) (h2 : j ≤ 1000000) (h3 : -18446744073709551616 < i) (h4 : i < 18446744073709551616) : dPow (.int i) (.int j) k = k (.int (i ^ j.toNat)) := by
  rw [r_pow]
  exact propext ⟨fun q => q.2, fun q => ⟨⟨h, h2, by omega⟩, q⟩⟩
end
def blOf (d : D) (k : Bool → Prop) : Prop := match d with
  | .bl b => k b
  | _ => False
theorem r_bl {w : WE} {ρ : Env} {Q : Bool → Env → Prop} : wBl w ρ Q = w ρ fun d ρ' => blOf d fun b => Q b ρ' := by
  show (w ρ fun d ρ' => match d with | .bl b => Q b ρ' | _ => False) = _
  rfl
theorem r_blOf {b : Bool} {k : Bool → Prop} : blOf (.bl b) k = k b := rfl
def truOf (d : D) (k : Bool → Prop) : Prop := oget (truD d) k
theorem r_tru {w : WE} {ρ : Env} {Q : Bool → Env → Prop} : wTru w ρ Q = w ρ fun d ρ' => truOf d fun b => Q b ρ' := by
  unfold wTru
  congr 1
  funext d ρ'
  unfold truOf oget
  cases truD d <;> rfl
theorem r_truB {b : Bool} {k : Bool → Prop} : truOf (.bl b) k = k b := rfl
theorem r_truI {i : Int} {k : Bool → Prop} : truOf (.int i) k = k (i != 0) := rfl
theorem r_truL {xs : List D} {k : Bool → Prop} : truOf (.lst xs) k = k (!xs.isEmpty) := rfl
theorem r_truT {xs : List D} {k : Bool → Prop} : truOf (.tup xs) k = k (!xs.isEmpty) := rfl
def seqOf (d : D) (k : List D → Prop) : Prop := match d with
  | .tup ds => pureL ds = true ∧ k ds
  | .lst ds => k ds
  | _ => False
theorem r_seq {w : WE} {ρ : Env} {Q : List D → Env → Prop} : wSeqD w ρ Q = w ρ fun d ρ' => seqOf d fun ds => Q ds ρ' := by
  show (w ρ fun d ρ' => match d with | .tup ds => pureL ds = true ∧ Q ds ρ' | .lst ds => Q ds ρ' | _ => False) = _
  rfl
theorem r_seqT {xs : List D} {k : List D → Prop} : seqOf (.tup xs) k = (pureL xs = true ∧ k xs) := rfl
theorem r_seqL {xs : List D} {k : List D → Prop} : seqOf (.lst xs) k = k xs := rfl
def klsOf (d : D) (k : List D → Prop) : Prop := match d with
  | .kls ds => k ds
  | _ => False
theorem r_kls {w : WE} {ρ : Env} {Q : List D → Env → Prop} : wSeqK w ρ Q = w ρ fun d ρ' => klsOf d fun ds => Q ds ρ' := by
  show (w ρ fun d ρ' => match d with | .kls ds => Q ds ρ' | _ => False) = _
  rfl
theorem r_klsK {xs : List D} {k : List D → Prop} : klsOf (.kls xs) k = k xs := rfl
def valsOf (d : D) (k : List D → Prop) : Prop := match d with
  | .dik kvs => k (kvs.map (·.2))
  | _ => False
theorem r_vals {w : WE} {ρ : Env} {Q : List D → Env → Prop} : wVals w ρ Q = w ρ fun d ρ' => valsOf d fun ds => Q ds ρ' := by
  show (w ρ fun d ρ' => match d with | .dik kvs => Q (kvs.map (·.2)) ρ' | _ => False) = _
  rfl
theorem r_valsK {kvs : List (Key × D)} {k : List D → Prop} : valsOf (.dik kvs) k = k (kvs.map (·.2)) := rfl
def intOf (d : D) (k : Option Int → Prop) : Prop := match d with
  | .int i => k (some i)
  | _ => False
theorem r_some {w : WE} {ρ : Env} {Q : Option Int → Env → Prop} : wSome w ρ Q = w ρ fun d ρ' => intOf d fun i => Q i ρ' := by
  show (w ρ fun d ρ' => match d with | .int i => Q (some i) ρ' | _ => False) = _
  rfl
theorem r_intOf {i : Int} {k : Option Int → Prop} : intOf (.int i) k = k (some i) := rfl
theorem r_andV {wa wb : WE} {ρ : Env} {Q : D → Env → Prop} : wAndV wa wb ρ Q = wa ρ fun d ρ1 => blOf d fun c => if c = true then wb ρ1 Q else Q (.bl false) ρ1 := by
  show (wa ρ fun d ρ1 => match d with | .bl c => if c = true then wb ρ1 Q else Q (.bl false) ρ1 | _ => False) = _
  rfl
theorem r_orV {wa wb : WE} {ρ : Env} {Q : D → Env → Prop} : wOrV wa wb ρ Q = wa ρ fun d ρ1 => blOf d fun c => if c = true then Q (.bl true) ρ1 else wb ρ1 Q := by
  show (wa ρ fun d ρ1 => match d with | .bl c => if c = true then Q (.bl true) ρ1 else wb ρ1 Q | _ => False) = _
  rfl
theorem r_notV {wa : WE} {ρ : Env} {Q : D → Env → Prop} : wNotV wa ρ Q = wa ρ fun d ρ1 => blOf d fun c => Q (.bl (!c)) ρ1 := by
  show (wa ρ fun d ρ1 => match d with | .bl c => Q (.bl (!c)) ρ1 | _ => False) = _
  rfl
def rng1Of (ds : List D) (k : List D → Prop) : Prop := match ds with
  | [.int j] => -(2 ^ 62) ≤ j ∧ j < 2 ^ 62 ∧ k (rngD 0 j.toNat)
  | _ => False
theorem r_rng1 {wr : WA} {ρ : Env} {Q : List D → Env → Prop} : wRng1 wr ρ Q = wr ρ fun ds ρ' => rng1Of ds fun l => Q l ρ' := by
  show (wr ρ fun ds ρ' => match ds with | [.int j] => -(2 ^ 62) ≤ j ∧ j < 2 ^ 62 ∧ Q (rngD 0 j.toNat) ρ' | _ => False) = _
  rfl
theorem r_rng1I {j : Int} {k : List D → Prop} : rng1Of [.int j] k = (-(2 ^ 62) ≤ j ∧ j < 2 ^ 62 ∧ k (rngD 0 j.toNat)) := rfl
def rng2Of (ds : List D) (k : List D → Prop) : Prop := match ds with
  | [.int i, .int j] => (-(2 ^ 62) ≤ i ∧ i < 2 ^ 62 ∧ -(2 ^ 62) ≤ j ∧ j < 2 ^ 62) ∧ k (rngD i (j - i).toNat)
  | _ => False
theorem r_rng2 {wr : WA} {ρ : Env} {Q : List D → Env → Prop} : wRng2 wr ρ Q = wr ρ fun ds ρ' => rng2Of ds fun l => Q l ρ' := by
  show (wr ρ fun ds ρ' => match ds with | [.int i, .int j] => (-(2 ^ 62) ≤ i ∧ i < 2 ^ 62 ∧ -(2 ^ 62) ≤ j ∧ j < 2 ^ 62) ∧ Q (rngD i (j - i).toNat) ρ' | _ => False) = _
  rfl
theorem r_rng2I {i j : Int} {k : List D → Prop} : rng2Of [.int i, .int j] k = ((-(2 ^ 62) ≤ i ∧ i < 2 ^ 62 ∧ -(2 ^ 62) ≤ j ∧ j < 2 ^ 62) ∧ k (rngD i (j - i).toNat)) := rfl
def enumOf (ds : List D) (k : List D → Prop) : Prop := match ds with
  | [.tup es] => pureL es = true ∧ k (enumD 0 es)
  | _ => False
theorem r_enum {wr : WA} {ρ : Env} {Q : List D → Env → Prop} : wEnum wr ρ Q = wr ρ fun ds ρ' => enumOf ds fun l => Q l ρ' := by
  show (wr ρ fun ds ρ' => match ds with | [.tup es] => pureL es = true ∧ Q (enumD 0 es) ρ' | _ => False) = _
  rfl
theorem r_enumT {xs : List D} {k : List D → Prop} : enumOf [.tup xs] k = (pureL xs = true ∧ k (enumD 0 xs)) := rfl
theorem r_gTup {n : Nat} {wgs : List D → Env → (Env → Prop) → Prop} {xs : List D} {ρ : Env} {Q : Env → Prop} : gTupD n wgs (.tup xs) ρ Q = (xs.length = n ∧ wgs xs ρ Q) := rfl
theorem r_gCons {wg : WG} {wgs : List D → Env → (Env → Prop) → Prop} {d : D} {r : List D} {ρ : Env} {Q : Env → Prop} : gConsD wg wgs (d :: r) ρ Q = wg d ρ fun ρ' => wgs r ρ' Q := rfl
theorem r_gNil {ρ : Env} {Q : Env → Prop} : gNilD [] ρ Q = Q ρ := rfl
theorem r_tyL {xs : List D} {t : String} : tyD (some (.lst xs)) t = (t == "list") := rfl
theorem r_tyD {xs : List (Key × D)} {t : String} : tyD (some (.dik xs)) t = (t == "dict") := rfl
theorem r_tyT {xs : List (List Key × D)} {t : String} : tyD (some (.dit xs)) t = (t == "dict") := rfl
theorem r_flL {xs : List D} : flatD (.lst xs) = pureL xs := rfl
theorem r_flD {xs : List (Key × D)} : flatD (.dik xs) = xs.all fun kv => kv.2.pure := rfl
theorem r_flT {xs : List (List Key × D)} : flatD (.dit xs) = xs.all fun kv => kv.2.pure := rfl
theorem pureL_map {α : Type} {f : α → D} {l : List α} (h : ∀ a ∈ l, (f a).pure = true) : pureL (l.map f) = true := by
  rw [pureL_iff]
  intro x hx
  obtain ⟨a, ha, rfl⟩ := List.mem_map.mp hx
  exact h a ha
theorem eqOks_map {α : Type} {f : α → D} {n : Nat} {l : List α} (h : ∀ a ∈ l, eqOk n (f a) = true) : eqOks n (l.map f) = true := by
  rw [eqOks_iff]
  intro x hx
  obtain ⟨a, ha, rfl⟩ := List.mem_map.mp hx
  exact h a ha
def compI (ds : List D) (wt : WT) (we : WE) (ρ1 : Env) (ix : List Nat) (Q : D → Env → Prop) : Prop := ∃ I : Nat → List D → Prop, I 0 [] ∧
  (∀ i d ys, ds[i]? = some d → I i ys → ys.length < sizeLine ∧ wt (blkE ρ1 d ix) fun b _ => if b = true then we (blkE ρ1 d ix) (fun y _ => I (i + 1) (ys ++ [y])) else I (i + 1) ys) ∧
  ∀ ys, I ds.length ys → ys.length ≤ sizeLine ∧ Q (.lst ys) ρ1
theorem r_comp {wl : WL} {wt : WT} {we : WE} {ix : List Nat} {ρ : Env} {Q : D → Env → Prop} : wComp wl wt we ix ρ Q = wl ρ fun ds ρ1 => compI ds wt we ρ1 ix Q := rfl
def forI (ds : List D) (wg : WG) (wb : WS) (P : EndsP) (ρ1 : Env) : Prop := ∃ I : Nat → Env → Prop, I 0 ρ1 ∧
  (∀ i d ρ, ds[i]? = some d → I i ρ → wg d ρ fun ρ' => wb { P with nx := I (i + 1), ct := I (i + 1), bk := P.nx } ρ') ∧ ∀ ρ, I ds.length ρ → P.nx ρ
theorem r_for {wl : WL} {wg : WG} {wb : WS} {P : EndsP} {ρ : Env} : wFor wl wg wb P ρ = wl ρ fun ds ρ1 => pureL ds = true ∧ forI ds wg wb P ρ1 := rfl
def forR (ds : List D) (i₀ : Nat) (wb : WS) (P : EndsP) (ρ1 : Env) : Prop := ∃ I : Nat → Env → Prop, I 0 ρ1 ∧
  (∀ i d ρ, ds[i]? = some d → I i ρ → wb { P with nx := I (i + 1), ct := I (i + 1), bk := P.nx } (ρ.set i₀ (some d))) ∧ ∀ ρ, I ds.length ρ → P.nx ρ
theorem r_forR {wl : WL} {i₀ : Nat} {wb : WS} {P : EndsP} {ρ : Env} : wForR wl i₀ wb P ρ = wl ρ fun ds ρ1 => forR ds i₀ wb P ρ1 := rfl
end PV
set_option Elab.async false
set_option linter.all false
set_option maxRecDepth 100000
set_option maxHeartbeats 4000000
namespace PV
open PySem PySem.Spec L2
section
variable {i j : Int} {x y : Str} {xs ys : List D} {k : D → Prop} {b c : Bool} {d e : D} {kvs kus : List (Key × D)}
theorem r2_add : dAddT (.int i) (.int j) k = k (.int (i + j)) := rfl
theorem r2_addS : dAddT (.str x) (.str y) k = (x.length + y.length ≤ sizeLine ∧ k (.str (x ++ y))) := rfl
theorem r2_addT : dAddT (.tup xs) (.tup ys) k = (pureL xs = true ∧ pureL ys = true ∧ xs.length + ys.length ≤ sizeLine ∧ k (.tup (xs ++ ys))) := rfl
theorem r2_addL : dAddT (.lst xs) (.lst ys) k = (pureL xs = true ∧ pureL ys = true ∧ xs.length + ys.length ≤ sizeLine ∧ k (.lst (xs ++ ys))) := rfl
theorem r2_slL {lo hi : Option Int} : dSlT (.lst xs) lo hi k = (pureL xs = true ∧ k (.lst (cutD xs lo hi))) := rfl
theorem r2_slK {lo hi : Option Int} : dSlT (.kls xs) lo hi k = (pureL xs = true ∧ k (.lst (cutD xs lo hi))) := rfl
theorem r2_slT {lo hi : Option Int} : dSlT (.tup xs) lo hi k = (pureL xs = true ∧ k (.tup (cutD xs lo hi))) := rfl
theorem r2_list : dListK [.dik kvs] k = k (.lst (keysD kvs)) := rfl
theorem r2_ixFi : dIx (.fdk kvs) (.int i) k = oget (valD kvs (.inl i)) k := rfl
theorem r2_eqDD {n : Bool} : dEqK n (.dik kvs) (.dik kus) k = (eqK kvs kus ∧ (sameK kvs kus → k (.bl (!n))) ∧ (¬ sameK kvs kus → k (.bl n))) := rfl
theorem r2_eqDF {n : Bool} : dEqK n (.dik kvs) (.fdk kus) k = (eqK kvs kus ∧ (sameK kvs kus → k (.bl (!n))) ∧ (¬ sameK kvs kus → k (.bl n))) := rfl
theorem r2_noD : wGet2.noDct (.dik kvs) = false := rfl
theorem r2_get : dGet2 (.dik kvs) (.int i) d k = k ((valD kvs (.inl i)).getD d) := rfl
theorem r2_clear {kk : D → D → Prop} : gClearK (.dik kvs) [] kk = kk .non (.dik []) := rfl
theorem r2_dik {k : List (Key × D) → Prop} : dikOf (.dik kvs) k = k kvs := rfl
theorem r2_lst {k : List D → Prop} : lstOf2 (.lst xs) k = k xs := rfl
theorem r2_keyI : keyOf (.int i) = some (.inl i) := rfl
end
def keysOfD (d : D) (k : List D → Prop) : Prop := dikOf d fun kvs => k (keysD kvs)
theorem r2_keys {w : WE} {ρ : Env} {Q : List D → Env → Prop} : wKeys w ρ Q = w ρ fun d ρ' => keysOfD d fun ds => Q ds ρ' := by
  show (w ρ fun d ρ' => match d with | .dik kvs => Q (keysD kvs) ρ' | _ => False) = _
  first | rfl | (congr 1; funext d ρ'; cases d <;> rfl)
theorem r2_keysD {kvs : List (Key × D)} {k : List D → Prop} : keysOfD (.dik kvs) k = k (keysD kvs) := rfl
def zipOf (ds : List D) (k : List D → Prop) : Prop := match ds with
  | [.dik kvs, .lst xs] => pureL xs = true ∧ k (zipD kvs xs)
  | _ => False
theorem r2_zip {wr : WA} {ρ : Env} {Q : List D → Env → Prop} : wZip wr ρ Q = wr ρ fun ds ρ' => zipOf ds fun l => Q l ρ' := by
  show (wr ρ fun ds ρ' => match ds with | [.dik kvs, .lst xs] => pureL xs = true ∧ Q (zipD kvs xs) ρ' | _ => False) = _
  rfl
theorem r2_zipD {kvs : List (Key × D)} {xs : List D} {k : List D → Prop} : zipOf [.dik kvs, .lst xs] k = (pureL xs = true ∧ k (zipD kvs xs)) := rfl
theorem r2_sub {i : Nat} {wi : WE} {d : D} {ρ : Env} {Q : Env → Prop} : gSubD i wi d ρ Q = ((look ρ i).isSome = true ∧ wi ρ fun c _ => oget (look ρ i) fun s => lstOf2 s fun xs => intOf c fun j => oget (j.bind (ixN xs.length)) fun n => Q (ρ.set i (some (.lst (xs.set n d))))) := by
  unfold gSubD
  first | rfl | (congr 1; congr 1; funext c _; congr 1; funext s; congr 1; funext xs; cases c <;> rfl)
end PV
set_option Elab.async false
set_option linter.all false
set_option maxRecDepth 100000
set_option maxHeartbeats 4000000
namespace PV
open PySem PySem.Spec L2
theorem ints_inj : ∀ {a b : List Int}, a.map D.int = b.map D.int → a = b
  | [], [], _ => rfl
  | [], _ :: _, h => by simp at h
  | _ :: _, [], h => by simp at h
  | x :: a, y :: b, h => by
    simp only [List.map_cons, List.cons.injEq, D.int.injEq] at h
    rw [h.1, ints_inj h.2]
section
variable {ns : List Int} {n : Int} {k : D → Prop} {xs : List D} {kvs : List (Key × D)}
theorem r3_cnt : dCount (.ftp (ns.map D.int)) [.int n] k = k (.int (ns.count n : Nat)) := by
  show (∃ ms : List Int, ns.map D.int = ms.map D.int ∧ k (.int (ms.count n : Nat))) = _
  exact propext ⟨fun ⟨ms, e, h⟩ => by rw [ints_inj e]; exact h, fun h => ⟨ns, rfl, h⟩⟩
theorem r3_ft : isFt (.ftp xs) = true := rfl
theorem r3_sum : dSum [.lst (ns.map D.int)] k = k (.int ns.sum) := by
  show (∃ ms : List Int, ns.map D.int = ms.map D.int ∧ k (.int ms.sum)) = _
  exact propext ⟨fun ⟨ms, e, h⟩ => by rw [ints_inj e]; exact h, fun h => ⟨ns, rfl, h⟩⟩
theorem r3_tupF : dTupF [.lst xs] k = (pureL xs = true ∧ k (.ftp xs)) := rfl
theorem r3_sortD : dSortD [.dik kvs] k = ∃ ns : List Int, kvs.map (·.1) = ns.map Sum.inl ∧ kvs.length < 64 ∧ ∀ out : List Int, out.Perm ns → out.Pairwise (· ≤ ·) → k (.lst (out.map D.int)) := rfl
end
end PV
set_option Elab.async false
set_option linter.all false
set_option maxRecDepth 100000
set_option maxHeartbeats 4000000
namespace PV
open PySem PySem.Spec L2
section
variable {i j : Int} {k : D → Prop} {xs ys : List D} {bs : List Bool} {d e : D}
theorem r4_divB (h : 0 < j) (h2 : j < 115792089237316195423570985008687907853269984665640564039457584007913129639936) : dDivB (.int i) (.int j) k = k (.int (i / j)) := by
  show (0 < j ∧ j < 2 ^ 256 ∧ k (.int (i / j))) = _
  exact propext ⟨fun q => q.2.2, fun q => ⟨h, by omega, q⟩⟩
theorem bls_inj : ∀ {a b : List Bool}, a.map D.bl = b.map D.bl → a = b
  | [], [], _ => rfl
  | [], _ :: _, h => by simp at h
  | _ :: _, [], h => by simp at h
  | x :: a, y :: b, h => by
    simp only [List.map_cons, List.cons.injEq, D.bl.injEq] at h
    rw [h.1, bls_inj h.2]
theorem r4_all : dAll [.lst (bs.map D.bl)] k = k (.bl (bs.all id)) := by
  show (∃ cs : List Bool, bs.map D.bl = cs.map D.bl ∧ k (.bl (cs.all id))) = _
  exact propext ⟨fun ⟨cs, e, h⟩ => by rw [bls_inj e]; exact h, fun h => ⟨bs, rfl, h⟩⟩
theorem r4_zipT {k : List D → Prop} : zipTOf [.tup xs, .tup ys] k = (pureL xs = true ∧ pureL ys = true ∧ k (zipTD xs ys)) := rfl
theorem r4_two {k : D → D → Prop} : two2 (.tup [d, e]) k = k d e := rfl
end
end PV
set_option Elab.async false
set_option linter.all false
set_option maxRecDepth 100000
set_option maxHeartbeats 4000000
namespace PV
open PySem PySem.Spec L2
theorem pick2 {a b : D} {r : Int} (h0 : 0 ≤ r) (h1 : r < 2) : (r = 0 ∧ L2.atI [a, b] r = some a) ∨ (r = 1 ∧ L2.atI [a, b] r = some b) := by
  have : r = 0 ∨ r = 1 := by omega
  rcases this with rfl | rfl
  · exact .inl ⟨rfl, rfl⟩
  · exact .inr ⟨rfl, rfl⟩
theorem pick3 {a b c : D} {r : Int} (h0 : 0 ≤ r) (h1 : r < 3) : L2.atI [a, b, c] r = some a ∨ L2.atI [a, b, c] r = some b ∨ L2.atI [a, b, c] r = some c := by
  have : r = 0 ∨ r = 1 ∨ r = 2 := by omega
  rcases this with rfl | rfl | rfl
  · exact .inl rfl
  · exact .inr (.inl rfl)
  · exact .inr (.inr rfl)
theorem pick4 {a b c d : D} {r : Int} (h0 : 0 ≤ r) (h1 : r < 4) : L2.atI [a, b, c, d] r = some a ∨ L2.atI [a, b, c, d] r = some b ∨ L2.atI [a, b, c, d] r = some c ∨ L2.atI [a, b, c, d] r = some d := by
  have : r = 0 ∨ r = 1 ∨ r = 2 ∨ r = 3 := by omega
  rcases this with rfl | rfl | rfl | rfl
  · exact .inl rfl
  · exact .inr (.inl rfl)
  · exact .inr (.inr (.inl rfl))
  · exact .inr (.inr (.inr rfl))
theorem rngD_length {lo : Int} {n : Nat} : (rngD lo n).length = n := by simp [rngD]
theorem rngD_get {lo : Int} {n i : Nat} {d : D} (h : (rngD lo n)[i]? = some d) : i < n ∧ d = .int (lo + (i : Int)) := by
  have hi : i < n := by have := (List.getElem?_eq_some_iff.mp h).1; rwa [rngD_length] at this
  simp only [rngD, List.getElem?_map, List.getElem?_range hi, Option.map_some, Option.some.injEq] at h
  exact ⟨hi, h.symm⟩
theorem pure_rngD {lo : Int} {n : Nat} : pureL (rngD lo n) = true := pureL_map fun _ _ => rfl
theorem cut_from {ds : List D} {a : Nat} (h : a ≤ ds.length) : cutD ds (some (a : Int)) none = ds.drop a := by
  unfold cutD
  rw [HT.sIx_nat, HT.sIx_none, Nat.min_eq_left h, List.take_of_length_le (by simp)]
theorem cut_to {ds : List D} {b : Nat} : cutD ds none (some (b : Int)) = ds.take b := by
  unfold cutD
  rw [HT.sIx_nat, HT.sIx_none, List.drop_zero, Nat.sub_zero]
  by_cases h : b ≤ ds.length
  · rw [Nat.min_eq_left h]
  · rw [Nat.min_eq_right (by omega), List.take_of_length_le (by omega), List.take_of_length_le (by omega)]
def rowD (c n : Int) : D := .lst [.int c, .int n]
structure Pr (N : Nat) (xs : List Int) (t : Nat) (L : List Nat) (Bs : List Int) (ps : List (Nat × Nat)) : Prop where
  bl : Bs.length = N
  pl : ps.length = t
  perm : (ps.flatMap (fun p => [p.1, p.2]) ++ L).Perm (List.range N)
  val : ∀ (s : Nat) p, ps[s]? = some p → ∃ x, xs[s]? = some x ∧ Bs[p.1]? = some x ∧ Bs[p.2]? = some x
theorem Pr.lt {N : Nat} {xs : List Int} {t : Nat} {L : List Nat} {Bs : List Int} {ps : List (Nat × Nat)} (h : Pr N xs t L Bs ps) {i : Nat} (hi : i ∈ L) : i < N := by
  have := h.perm.mem_iff.mp (List.mem_append.mpr (.inr hi))
  exact List.mem_range.mp this
theorem Pr.nd {N : Nat} {xs : List Int} {t : Nat} {L : List Nat} {Bs : List Int} {ps : List (Nat × Nat)} (h : Pr N xs t L Bs ps) : (ps.flatMap (fun p => [p.1, p.2]) ++ L).Nodup := h.perm.nodup_iff.mpr List.nodup_range
theorem Pr.start (N : Nat) (xs : List Int) : Pr N xs 0 (List.range N) (List.replicate N 0) [] := ⟨by simp, rfl, by simp, fun s p h => by simp at h⟩
theorem perm_erase {α : Type} : ∀ {l : List α} {i : Nat} (h : i < l.length), (l[i] :: l.eraseIdx i).Perm l
  | a :: l, 0, _ => List.Perm.refl _
  | a :: l, i + 1, h => by
    have := perm_erase (l := l) (i := i) (by simpa using h)
    simp only [List.getElem_cons_succ, List.eraseIdx_cons_succ]
    exact (List.Perm.swap _ _ _).trans (this.cons a)
theorem Pr.step {N : Nat} {xs : List Int} {t i s : Nat} {L : List Nat} {Bs : List Int} {ps : List (Nat × Nat)} {x : Int} (h : Pr N xs t (i :: L) Bs ps) (hx : xs[t]? = some x) (hs : s < L.length) :
    Pr N xs (t + 1) (L.eraseIdx s) ((Bs.set i x).set L[s] x) (ps ++ [(i, L[s])]) := by
  have nd := h.nd
  obtain ⟨n1, n2, n3⟩ := List.nodup_append.mp nd
  have hjm : L[s] ∈ L := List.getElem_mem hs
  have hij : i ≠ L[s] := fun z => (List.nodup_cons.mp n2).1 (z ▸ hjm)
  have hi := h.lt (List.mem_cons_self (a := i))
  have hj := h.lt (List.mem_cons_of_mem i hjm)
  refine ⟨by simp [h.bl], by simp [h.pl], ?_, fun s' p hp => ?_⟩
  · rw [List.flatMap_append]
    refine List.Perm.trans ?_ h.perm
    rw [List.append_assoc]
    refine List.Perm.append_left _ ?_
    show (i :: L[s] :: L.eraseIdx s).Perm (i :: L)
    exact List.Perm.cons _ (perm_erase hs)
  · by_cases hs' : s' < ps.length
    · rw [List.getElem?_append_left hs'] at hp
      obtain ⟨y, h1, h2, h3⟩ := h.val s' p hp
      have mem : ∀ a, a = p.1 ∨ a = p.2 → a ∈ ps.flatMap (fun p => [p.1, p.2]) := fun a ha => List.mem_flatMap.mpr ⟨p, List.mem_of_getElem? hp, by simpa using ha⟩
      have ne : ∀ a, a = p.1 ∨ a = p.2 → i ≠ a ∧ L[s] ≠ a := fun a ha => ⟨fun z => n3 a (mem a ha) i List.mem_cons_self z.symm, fun z => n3 a (mem a ha) L[s] (List.mem_cons_of_mem _ hjm) z.symm⟩
      refine ⟨y, h1, ?_, ?_⟩
      · rw [List.getElem?_set_ne (ne _ (.inl rfl)).2, List.getElem?_set_ne (ne _ (.inl rfl)).1]; exact h2
      · rw [List.getElem?_set_ne (ne _ (.inr rfl)).2, List.getElem?_set_ne (ne _ (.inr rfl)).1]; exact h3
    · have e : s' = t := by
        have := (List.getElem?_eq_some_iff.mp hp).1
        have := h.pl
        simp at *
        omega
      subst e
      rw [List.getElem?_append_right (by omega), h.pl, Nat.sub_self] at hp
      simp at hp
      subst hp
      refine ⟨x, hx, ?_, ?_⟩
      · rw [List.getElem?_set_ne (Ne.symm hij), List.getElem?_set_self (by rw [h.bl]; exact hi)]
      · rw [List.getElem?_set_self (by rw [List.length_set, h.bl]; exact hj)]
end PV
set_option Elab.async false
set_option linter.all false
set_option maxRecDepth 100000
set_option maxHeartbeats 4000000
namespace PV
open PySem PySem.Spec L2
end PV
set_option Elab.async false
set_option linter.all false
set_option maxRecDepth 100000
set_option maxHeartbeats 4000000
namespace M
open PySem PySem.Spec L2 PV
def ix (a : Int) : List Int → Nat
  | [] => 0
  | x :: l => if x = a then 0 else ix a l + 1
def keys (A : Nat → Int) (t : Nat) : List Int := (plc A t).map (·.1)
end M
namespace PV
open PySem PySem.Spec L2
def num : Nat → List Int → List (Key × D)
  | _, [] => []
  | n, a :: l => (.inl a, .int (n : Nat)) :: num (n + 1) l
end PV
set_option Elab.async false
set_option linter.all false
namespace M32
def bin : Nat → Nat → Nat
  | _, 0 => 1
  | 0, _ + 1 => 0
  | n + 1, k + 1 => bin n k + bin n (k + 1)
def sg (r : Nat) : Int := if r % 2 = 0 then 1 else -1
def num (r k : Nat) : Int := sg r * (bin r k : Int)
open PV L2
def ent (c : Int) (f : Nat → D) (j : Nat) : Key × D := (.inl (c - 4 * (j : Int)), f j)
def row (c : Int) (f : Nat → D) (n : Nat) : List (Key × D) := (List.range n).map (ent c f)
section
variable {c : Int} {f : Nat → D} {n i : Nat}
def nm (r : Nat) (j : Nat) : D := .int (num r j)
def mid (c : Int) (r : Nat) : Nat → List (Key × D)
  | 0 => []
  | i + 1 => row c (nm (r + 1)) (i + 1) ++ [(.inl (c - 4 * ((i + 1 : Nat) : Int)), .int (-num r i))]
end
def wt (p : Int) (r : Nat) (n : Nat) : List D := (List.range n).map fun (k : Nat) => .tup [.int (p + 4 * (k : Int)), .int (num r k)]
end M32
set_option Elab.async false
set_option linter.all false
set_option maxRecDepth 100000
set_option maxHeartbeats 4000000
namespace PV
open PySem PySem.Spec L2
section
variable {X : Cx} {T : Tg} {m o m1 m2 m3 o1 o2 : Bool} {e a b : Expr} {w wa wb : WE} {pos p2 p : Pos} {es : List Expr} {wr : WA} {x : Str}
variable {name : Str} {apos cpos : Pos} {T' id : String}
end
end PV
namespace S03
open PySem PySem.Spec L2 PV
open PySem.Builtin.Str (glued)
def nw (n : Int) : Str := Str.ofString (toString n)
def wx : Str := Str.ofString "x"
def we : Str := Str.ofString "e"
def wo : Str := Str.ofString "o"
def Wx (A : Nat → Int) : Nat → List Str
  | 0 => []
  | k + 1 => Wx A k ++ (wx :: (List.range 4).map fun j => nw (A (4 * k + j)))
def We (m e : Nat) (A : Nat → Int) : List Str := if e = 0 then [] else we :: (List.range e).map fun j => nw (A (4 * m + j))
def Wo (r : Int) : List Str := if 0 < r then [wo, nw r] else []
def Ws (m e : Nat) (A : Nat → Int) (r : Int) : List Str := Wx A m ++ (We m e A ++ Wo r)
def tx (m e : Nat) (A : Nat → Int) (r : Int) : Str := glued (Str.ofString " ") (Ws m e A r)
variable {k : D → Prop} {kk : D → D → Prop} {i : Int} {x y : Str} {xs ys : List D} {kvs : List (Key × D)}
theorem r5_ext : gExtend (.lst xs) [.lst ys] kk = (pureL ys = true ∧ xs.length + ys.length ≤ sizeLine ∧ kk .non (.lst (xs ++ ys))) := rfl
theorem small {n : Nat} (h : n ≤ 100000) : n < sizeLine := Nat.lt_of_le_of_lt h (by decide)
end S03
set_option Elab.async false
set_option linter.all false
set_option maxRecDepth 100000
set_option maxHeartbeats 4000000
namespace S24
open PySem PySem.Spec L2 PV S03
open PySem.Builtin.Str (glued occurrences strSub subAt)
def big : Int := 1000000000000000000000000000000000000000000000000000000000000
def av (n : Int) : Int := if n < 0 then -n else n
def pw (p : Int) : Str := if p = 0 then Str.ofString "" else if p = 1 then Str.ofString "x" else Str.ofString "x^" ++ nw p
def fore (t : Int × Int) : Str := if av t.2 = 1 then Str.ofString "" else nw (av t.2)
def hind (p : Int) : Str := if p = 1 then Str.ofString "" else Str.ofString "^" ++ nw p
def tm (t : Int × Int) : Str := if t.1 = 0 then nw (av t.2) else fore t ++ Str.ofString "x" ++ hind t.1
def sg (n : Int) : Str := if n < 0 then Str.ofString "-" else Str.ofString "+"
def ws (ts : List (Int × Int)) : List Str := ts.flatMap fun t => [sg t.2, tm t]
def fst (n : Int) : Str := if n < 0 then Str.ofString "-" else Str.ofString ""
def tx : List (Int × Int) → Str
  | [] => Str.ofString "0"
  | t :: r => fst t.2 ++ glued (Str.ofString " ") (tm t :: ws r)
theorem ws_len (ts : List (Int × Int)) : (ws ts).length = 2 * ts.length := by
  unfold ws
  induction ts with
  | nil => rfl
  | cons t ts ih => rw [List.flatMap_cons, List.length_append, ih, List.length_cons, List.length_cons, List.length_cons, List.length_nil]; omega
theorem ws_at1 {ts : List (Int × Int)} {k : Nat} : (ws ts)[2 * k + 1]? = (ts[k]?).map tm := by
  induction ts generalizing k with
  | nil => rfl
  | cons t ts ih =>
    cases k with
    | zero => rfl
    | succ k => show (sg t.2 :: tm t :: ws ts)[2 * (k + 1) + 1]? = _; rw [show 2 * (k + 1) + 1 = (2 * k + 1) + 1 + 1 by omega, List.getElem?_cons_succ, List.getElem?_cons_succ, ih, List.getElem?_cons_succ]
theorem pick_map {α β : Type} {xs : List α} {ts : List β} {f : β → α} {g : Nat → Nat} (h : ∀ k, xs[g k]? = (ts[k]?).map f) : (List.range ts.length).filterMap (fun k => xs[g k]?) = ts.map f := by
  have e : (fun k => xs[g k]?) = fun k => (ts[k]?).map f := funext h
  rw [e]
  apply List.ext_getElem?
  have : ∀ n, n ≤ ts.length → (List.range n).filterMap (fun k => (ts[k]?).map f) = (ts.take n).map f := by
    intro n
    induction n with
    | zero => intro _; rfl
    | succ n ih =>
      intro hn
      rw [List.range_succ, List.filterMap_append, ih (by omega), List.take_add_one, List.map_append, List.getElem?_eq_getElem (by omega)]
      simp [List.getElem?_eq_getElem (show n < ts.length by omega)]
  intro i
  rw [this _ (Nat.le_refl _), List.take_length]
theorem step1 {α : Type} (f : Str → α) (ts : List (Int × Int)) : stepV ((ws ts).map f) (some 1) none (some 2) = ts.map fun t => f (tm t) := by
  unfold stepV
  by_cases h0 : ts.length = 0
  · have : ts = [] := List.length_eq_zero_iff.mp h0
    subst this
    rfl
  have hb : sliceBounds (some 1) none (some 2) ((ws ts).map f).length = (1, ((2 * ts.length : Nat) : Int), 2) := by
    rw [List.length_map, ws_len]
    unfold sliceBounds
    simp
    omega
  rw [hb]
  unfold sliceRange
  simp only [show (2 : Int) > 0 by decide, if_true]
  have hc : (if (1 : Int) < ((2 * ts.length : Nat) : Int) then (((2 * ts.length : Nat) : Int) - 1 + 2 - 1) / 2 else 0).toNat = ts.length := by split <;> omega
  rw [hc, List.filterMap_map]
  refine pick_map (g := fun k => (1 + 2 * (k : Int)).toNat) fun k => ?_
  rw [show (1 + 2 * (k : Int)).toNat = 2 * k + 1 by omega, List.getElem?_map, ws_at1, Option.map_map]; rfl
section
variable {k : D → Prop} {i : Int} {x y : Str} {xs zs : List D}
end
end S24
set_option Elab.async false
set_option linter.all false
namespace Pol
abbrev T := List (Int × Int)
def ev (f : Int → Int) : T → Int
  | [] => 0
  | t :: ts => t.2 * f t.1 + ev f ts
theorem ev_nil {f} : ev f [] = 0 := rfl
theorem ev_cons {f} {t : Int × Int} {ts : T} : ev f (t :: ts) = t.2 * f t.1 + ev f ts := rfl
theorem ev_append {f} : ∀ {a b : T}, ev f (a ++ b) = ev f a + ev f b
  | [], b => by rw [List.nil_append, ev_nil, Int.zero_add]
  | t :: a, b => by rw [List.cons_append, ev_cons, ev_cons, ev_append]; omega
theorem ev_congr {f g : Int → Int} (h : ∀ p, f p = g p) : ∀ a : T, ev f a = ev g a
  | [] => rfl
  | t :: a => by rw [ev_cons, ev_cons, h, ev_congr h a]
theorem ev_zero : ∀ {a : T}, ev (fun _ => 0) a = 0
  | [] => rfl
  | t :: a => by rw [ev_cons, ev_zero]; omega
theorem ev_add {f g : Int → Int} : ∀ {a : T}, ev (fun p => f p + g p) a = ev f a + ev g a
  | [] => rfl
  | t :: a => by rw [ev_cons, ev_cons, ev_cons, ev_add, Int.mul_add]; omega
theorem ev_smul {f : Int → Int} {c : Int} : ∀ {a : T}, ev (fun p => c * f p) a = c * ev f a
  | [] => by rw [ev_nil, ev_nil, Int.mul_zero]
  | t :: a => by rw [ev_cons, ev_cons, ev_smul, Int.mul_add]; rw [Int.mul_left_comm]
theorem ev_swap {g : Int → Int → Int} {b : T} : ∀ {a : T}, ev (fun q => ev (fun r => g q r) b) a = ev (fun r => ev (fun q => g q r) a) b
  | [] => by
    show 0 = ev (fun _ => 0) b
    rw [ev_zero]
  | t :: a => by
    rw [ev_cons, ev_swap (a := a)]
    show _ = ev (fun r => t.2 * g t.1 r + ev (fun q => g q r) a) b
    rw [ev_add, ev_smul]
theorem ev_perm {f} {a b : T} (h : a.Perm b) : ev f a = ev f b := by
  induction h with
  | nil => rfl
  | cons x _ ih => rw [ev_cons, ev_cons, ih]
  | swap x y l => rw [ev_cons, ev_cons, ev_cons, ev_cons]; omega
  | trans _ _ h1 h2 => exact h1.trans h2
def mul (a b : T) : T := a.flatMap fun t => b.map fun u => (t.1 + u.1, t.2 * u.2)
def neg (a : T) : T := a.map fun t => (t.1, -t.2)
def lift (a : T) (m : Int) : T := a.map fun t => (t.1 + m, t.2)
def turn (a : T) : T := a.reverse.map fun t => (-t.1, t.2)
theorem ev_neg {f} : ∀ {a : T}, ev f (neg a) = - ev f a
  | [] => rfl
  | t :: a => by
    show -t.2 * f t.1 + ev f (neg a) = _
    rw [ev_neg, ev_cons, Int.neg_mul]; omega
theorem ev_lift {f} {m : Int} : ∀ {a : T}, ev f (lift a m) = ev (fun p => f (p + m)) a
  | [] => rfl
  | t :: a => by
    show t.2 * f (t.1 + m) + ev f (lift a m) = _
    rw [ev_lift, ev_cons]
theorem ev_map {f} {h : Int → Int} : ∀ {a : T}, ev f (a.map fun t => (h t.1, t.2)) = ev (fun p => f (h p)) a
  | [] => rfl
  | t :: a => by rw [List.map_cons, ev_cons, ev_map, ev_cons]
theorem ev_turn {f} {a : T} : ev f (turn a) = ev (fun p => f (-p)) a := by
  unfold turn
  rw [ev_map, ev_perm (List.reverse_perm a)]
theorem ev_mul1 {f} {t : Int × Int} : ∀ {b : T}, ev f (b.map fun u => (t.1 + u.1, t.2 * u.2)) = t.2 * ev (fun r => f (t.1 + r)) b
  | [] => by rw [List.map_nil, ev_nil, ev_nil, Int.mul_zero]
  | u :: b => by rw [List.map_cons, ev_cons, ev_cons, ev_mul1, Int.mul_add, Int.mul_assoc]
theorem ev_mul {f} {b : T} : ∀ {a : T}, ev f (mul a b) = ev (fun q => ev (fun r => f (q + r)) b) a
  | [] => rfl
  | t :: a => by
    show ev f (b.map _ ++ mul a b) = _
    rw [ev_append, ev_mul, ev_mul1, ev_cons]
structure Is (a : T) : Prop where
  asc : a.Pairwise fun t u => t.1 < u.1
  nz : ∀ t ∈ a, t.2 ≠ 0
def del (p : Int) : Int → Int := fun q => if q = p then 1 else 0
theorem ev_del_gt {p : Int} : ∀ {a : T}, (∀ t ∈ a, p < t.1) → ev (del p) a = 0
  | [], _ => rfl
  | t :: a, h => by
    have h1 := h t List.mem_cons_self
    rw [ev_cons, ev_del_gt fun u hu => h u (List.mem_cons_of_mem _ hu)]
    unfold del
    rw [if_neg (by omega)]
    omega
theorem ev_del_hd {t : Int × Int} {a : T} (h : (t :: a).Pairwise fun t u => t.1 < u.1) : ev (del t.1) (t :: a) = t.2 := by
  rw [ev_cons, ev_del_gt (List.pairwise_cons.mp h).1]
  unfold del
  rw [if_pos rfl]
  omega
theorem Is.tail {t : Int × Int} {a : T} (h : Is (t :: a)) : Is a := ⟨(List.pairwise_cons.mp h.asc).2, fun u hu => h.nz u (List.mem_cons_of_mem _ hu)⟩
theorem Is.hd {t : Int × Int} {a : T} (h : Is (t :: a)) : t.2 ≠ 0 := h.nz t List.mem_cons_self
theorem uniq : ∀ {a b : T}, Is a → Is b → (∀ f, ev f a = ev f b) → a = b
  | [], [], _, _, _ => rfl
  | [], u :: b, _, hb, h => by
    have := h (del u.1)
    rw [ev_nil, ev_del_hd hb.asc] at this
    exact absurd this.symm hb.hd
  | t :: a, [], ha, _, h => by
    have := h (del t.1)
    rw [ev_nil, ev_del_hd ha.asc] at this
    exact absurd this ha.hd
  | t :: a, u :: b, ha, hb, h => by
    have h1 := h (del t.1)
    have h2 := h (del u.1)
    rw [ev_del_hd ha.asc] at h1
    rw [ev_del_hd hb.asc] at h2
    have ht : ∀ x ∈ a, t.1 < x.1 := (List.pairwise_cons.mp ha.asc).1
    have hu : ∀ x ∈ b, u.1 < x.1 := (List.pairwise_cons.mp hb.asc).1
    rcases Int.lt_trichotomy t.1 u.1 with c | c | c
    · rw [ev_del_gt (a := u :: b)] at h1
      · exact absurd h1 ha.hd
      · intro x hx
        rcases List.mem_cons.mp hx with rfl | hx
        · exact c
        · have := hu x hx; omega
    · rw [← c] at h2
      have h3 : ev (del t.1) (u :: b) = u.2 := by rw [c]; exact ev_del_hd hb.asc
      have e : t = u := Prod.ext c (by rw [h1, h3])
      subst e
      rw [uniq ha.tail hb.tail fun f => by
        have := h f
        rw [ev_cons, ev_cons] at this
        omega]
    · rw [ev_del_gt (a := t :: a)] at h2
      · exact absurd h2.symm hb.hd
      · intro x hx
        rcases List.mem_cons.mp hx with rfl | hx
        · exact c
        · have := ht x hx; omega
theorem is_nil : Is [] := ⟨.nil, fun _ h => nomatch h⟩
theorem is_lift {a : T} {m : Int} (h : Is a) : Is (lift a m) := by
  refine ⟨?_, fun t ht => ?_⟩
  · unfold lift
    rw [List.pairwise_map]
    exact h.asc.imp fun {x y} hxy => by show x.1 + m < y.1 + m; omega
  · obtain ⟨u, hu, rfl⟩ := List.mem_map.mp ht
    exact h.nz u hu
theorem is_turn {a : T} (h : Is a) : Is (turn a) := by
  refine ⟨?_, fun t ht => ?_⟩
  · unfold turn
    rw [List.pairwise_map, List.pairwise_reverse]
    exact h.asc.imp fun {x y} hxy => by show -y.1 < -x.1; omega
  · obtain ⟨u, hu, rfl⟩ := List.mem_map.mp ht
    exact h.nz u (List.mem_reverse.mp hu)
def nrm : T → Nat
  | [] => 0
  | t :: a => t.2.natAbs + nrm a
theorem nrm_append : ∀ {a b : T}, nrm (a ++ b) = nrm a + nrm b
  | [], b => by rw [List.nil_append]; simp [nrm]
  | t :: a, b => by rw [List.cons_append, nrm, nrm, nrm_append]; omega
theorem nrm_neg : ∀ {a : T}, nrm (neg a) = nrm a
  | [] => rfl
  | t :: a => by
    show (-t.2).natAbs + nrm (neg a) = _
    rw [nrm_neg, Int.natAbs_neg]; rfl
theorem nrm_mul1 {t : Int × Int} : ∀ {b : T}, nrm (b.map fun u => (t.1 + u.1, t.2 * u.2)) = t.2.natAbs * nrm b
  | [] => by simp [nrm]
  | u :: b => by rw [List.map_cons, nrm, nrm_mul1, nrm, Int.natAbs_mul, Nat.mul_add]
theorem nrm_mul {b : T} : ∀ {a : T}, nrm (mul a b) = nrm a * nrm b
  | [] => by simp [mul, nrm]
  | t :: a => by
    show nrm (b.map _ ++ mul a b) = _
    rw [nrm_append, nrm_mul, nrm_mul1, nrm, Nat.add_mul]
theorem nrm_mem {t : Int × Int} : ∀ {a : T}, t ∈ a → t.2.natAbs ≤ nrm a
  | u :: a, h => by
    rcases List.mem_cons.mp h with rfl | h
    · rw [nrm]; omega
    · have := nrm_mem h; rw [nrm]; omega
theorem nrm_perm {a b : T} (h : a.Perm b) : nrm a = nrm b := by
  induction h with
  | nil => rfl
  | cons x _ ih => rw [nrm, nrm, ih]
  | swap x y l => rw [nrm, nrm, nrm, nrm]; omega
  | trans _ _ h1 h2 => exact h1.trans h2
def get : T → Int → Int
  | [], _ => 0
  | t :: a, p => if t.1 = p then t.2 else get a p
def put : T → Int → Int → T
  | [], p, n => [(p, n)]
  | t :: a, p, n => if t.1 = p then (p, n) :: a else t :: put a p n
theorem put_ev {f} {p n : Int} : ∀ {a : T}, ev f (put a p (get a p + n)) = ev f a + n * f p
  | [] => by
    show (0 + n) * f p + 0 = 0 + n * f p
    rw [Int.zero_add]; omega
  | t :: a => by
    unfold put get
    by_cases h : t.1 = p
    · rw [if_pos h, if_pos h, ev_cons, ev_cons, ← h]; show (t.2 + n) * f t.1 + _ = _; rw [Int.add_mul]; omega
    · rw [if_neg h, if_neg h, ev_cons, ev_cons, put_ev]; omega
theorem put_nrm {p n : Int} : ∀ {a : T}, nrm (put a p (get a p + n)) ≤ nrm a + n.natAbs
  | [] => by
    show (0 + n).natAbs + 0 ≤ 0 + n.natAbs
    rw [Int.zero_add]; omega
  | t :: a => by
    unfold put get
    by_cases h : t.1 = p
    · rw [if_pos h, if_pos h, nrm, nrm]; show (t.2 + n).natAbs + _ ≤ _; omega
    · rw [if_neg h, if_neg h, nrm, nrm]; have := put_nrm (p := p) (n := n) (a := a); omega
theorem put_keys {p n : Int} : ∀ {a : T} {q : Int}, q ∈ (put a p n).map (·.1) → q = p ∨ q ∈ a.map (·.1)
  | [], q, h => .inl (by simpa [put] using h)
  | t :: a, q, h => by
    unfold put at h
    by_cases e : t.1 = p
    · rw [if_pos e] at h
      rcases List.mem_cons.mp h with h | h
      · exact .inl h
      · exact .inr (List.mem_cons_of_mem _ h)
    · rw [if_neg e] at h
      rcases List.mem_cons.mp h with h | h
      · exact .inr (by rw [h]; exact List.mem_cons_self)
      · exact (put_keys h).imp id fun h => List.mem_cons_of_mem _ h
theorem put_nodup {p n : Int} : ∀ {a : T}, (a.map (·.1)).Nodup → ((put a p n).map (·.1)).Nodup
  | [], _ => by simp [put]
  | t :: a, h => by
    obtain ⟨h1, h2⟩ := List.nodup_cons.mp h
    unfold put
    by_cases e : t.1 = p
    · rw [if_pos e]
      exact List.nodup_cons.mpr ⟨by show p ∉ _; rw [← e]; exact h1, h2⟩
    · rw [if_neg e]
      refine List.nodup_cons.mpr ⟨fun hq => ?_, put_nodup h2⟩
      rcases put_keys hq with h | h
      · exact e h
      · exact h1 h
theorem put_length {p n : Int} : ∀ {a : T}, (put a p n).length ≤ a.length + 1
  | [] => by simp [put]
  | t :: a => by
    unfold put
    by_cases e : t.1 = p
    · rw [if_pos e]; simp
    · rw [if_neg e]; have := put_length (p := p) (n := n) (a := a); simpa using this
theorem keys_get : ∀ {a : T}, (a.map (·.1)).Nodup → (a.map (·.1)).map (fun p => (p, get a p)) = a
  | [], _ => rfl
  | t :: a, h => by
    obtain ⟨h1, h2⟩ := List.nodup_cons.mp h
    rw [List.map_cons, List.map_cons]
    have e1 : get (t :: a) t.1 = t.2 := by unfold get; rw [if_pos rfl]
    have e2 : (a.map (·.1)).map (fun p => (p, get (t :: a) p)) = (a.map (·.1)).map (fun p => (p, get a p)) := by
      refine List.map_congr_left fun p hp => ?_
      have : get (t :: a) p = get a p := by
        show (if t.1 = p then t.2 else get a p) = _
        rw [if_neg fun e => h1 (by show t.1 ∈ _; rw [e]; exact hp)]
      rw [this]
    rw [e1, e2, keys_get h2]
def nzf (a : T) : T := a.filter fun t => decide (t.2 ≠ 0)
theorem ev_nzf {f} : ∀ {a : T}, ev f (nzf a) = ev f a
  | [] => rfl
  | t :: a => by
    unfold nzf
    by_cases h : t.2 = 0
    · rw [List.filter_cons_of_neg (by simpa using h)]
      show ev f (nzf a) = _
      rw [ev_nzf, ev_cons, h]; omega
    · rw [List.filter_cons_of_pos (by simpa using h), ev_cons]
      show _ + ev f (nzf a) = _
      rw [ev_nzf]; rfl
theorem nrm_nzf : ∀ {a : T}, nrm (nzf a) = nrm a
  | [] => rfl
  | t :: a => by
    unfold nzf
    by_cases h : t.2 = 0
    · rw [List.filter_cons_of_neg (by simpa using h)]
      show nrm (nzf a) = _
      rw [nrm_nzf, nrm, h]; simp
    · rw [List.filter_cons_of_pos (by simpa using h), nrm]
      show _ + nrm (nzf a) = _
      rw [nrm_nzf]; rfl
theorem gather {a : T} {out : List Int} (hn : (a.map (·.1)).Nodup) (hp : out.Perm (a.map (·.1))) (ho : out.Pairwise (· ≤ ·)) :
    Is (nzf (out.map fun p => (p, get a p))) ∧ (∀ f, ev f (nzf (out.map fun p => (p, get a p))) = ev f a) ∧ nrm (nzf (out.map fun p => (p, get a p))) = nrm a ∧ (nzf (out.map fun p => (p, get a p))).length ≤ a.length := by
  have hpp : (out.map fun p => (p, get a p)).Perm a := by
    have := hp.map fun p => (p, get a p)
    rwa [keys_get hn] at this
  have hnd : out.Nodup := hp.symm.nodup hn
  refine ⟨⟨?_, fun t ht => ?_⟩, fun f => by rw [ev_nzf, ev_perm hpp], by rw [nrm_nzf, nrm_perm hpp], ?_⟩
  · refine List.Pairwise.filter _ ?_
    rw [List.pairwise_map]
    refine (ho.and hnd).imp fun {x y} h => ?_
    show x < y
    have h1 : x ≤ y := h.1
    have h2 : x ≠ y := h.2
    omega
  · have := (List.mem_filter.mp ht).2
    simpa using this
  · refine Nat.le_trans (List.length_filter_le _ _) ?_
    rw [hpp.length_eq]
    exact Nat.le_refl _
end Pol
set_option Elab.async false
set_option linter.all false
set_option maxRecDepth 100000
set_option maxHeartbeats 4000000
namespace Dct
open PySem PySem.Spec L2 PV
open Pol
def pr2 (t : Int × Int) : D := .tup [.int t.1, .int t.2]
theorem pure_two {ts : List (Int × Int)} : pureL (ts.map pr2) = true := pureL_map fun _ _ => rfl
theorem two_eq {n : Nat} {ts : List (Int × Int)} (h : 3 ≤ n) : eqOk n (.tup (ts.map pr2)) = true := by
  obtain ⟨m, rfl⟩ : ∃ m, n = m + 3 := ⟨n - 3, by omega⟩
  show eqOks (m + 2) (ts.map pr2) = true
  exact eqOks_map fun _ _ => rfl
theorem small {n : Nat} (h : n ≤ 1000000) : n < sizeLine := Nat.lt_of_le_of_lt h (by decide)
def enc (a : T) : List (Key × D) := a.map fun t => (.inl t.1, .int t.2)
theorem enc_len {a : T} : (enc a).length = a.length := List.length_map ..
theorem enc_keys {a : T} : (enc a).map (·.1) = (a.map (·.1)).map Sum.inl := by
  unfold enc
  rw [List.map_map, List.map_map]; rfl
theorem val_none {p : Int} : ∀ {a : T}, p ∉ a.map (·.1) → valD (enc a) (.inl p) = none
  | [], _ => rfl
  | t :: a, h => by
    have h1 : ¬ t.1 = p := fun e => h (by rw [← e]; exact List.mem_cons_self)
    have h2 : p ∉ a.map (·.1) := fun e => h (List.mem_cons_of_mem _ e)
    show valD ((.inl t.1, .int t.2) :: enc a) (.inl p) = none
    rw [valD_cons, if_neg (fun e => h1 (Sum.inl.inj e)), val_none h2]
theorem val_some {p : Int} : ∀ {a : T}, p ∈ a.map (·.1) → valD (enc a) (.inl p) = some (.int (get a p))
  | t :: a, h => by
    show valD ((.inl t.1, .int t.2) :: enc a) (.inl p) = _
    rw [valD_cons]
    unfold Pol.get
    by_cases e : t.1 = p
    · rw [if_pos (by rw [e]), if_pos e]
    · rw [if_neg (fun z => e (Sum.inl.inj z)), if_neg e]
      refine val_some ?_
      rcases List.mem_cons.mp h with h | h
      · exact absurd h.symm e
      · exact h
theorem get_none {p : Int} : ∀ {a : T}, p ∉ a.map (·.1) → get a p = 0
  | [], _ => rfl
  | t :: a, h => by
    have h1 : ¬ t.1 = p := fun e => h (by rw [← e]; exact List.mem_cons_self)
    have h2 : p ∉ a.map (·.1) := fun e => h (List.mem_cons_of_mem _ e)
    unfold Pol.get
    rw [if_neg h1, get_none h2]
theorem val_getD {p : Int} {a : T} : (valD (enc a) (.inl p)).getD (.int 0) = .int (get a p) := by
  by_cases h : p ∈ a.map (·.1)
  · rw [val_some h]; rfl
  · rw [val_none h, get_none h]; rfl
theorem put_enc {p n : Int} : ∀ {a : T}, (a.map (·.1)).Nodup → putD (enc a) (.inl p) (.int n) = enc (put a p n)
  | [], _ => rfl
  | t :: a, h => by
    obtain ⟨h1, h2⟩ := List.nodup_cons.mp h
    show putD ((.inl t.1, .int t.2) :: enc a) (.inl p) (.int n) = _
    unfold put
    by_cases e : t.1 = p
    · rw [if_pos e, e]
      rw [putD_hd]
      · rfl
      · rw [enc_keys]
        intro hm
        obtain ⟨q, hq, hqe⟩ := List.mem_map.mp hm
        have : q = p := Sum.inl.inj hqe
        subst this
        exact h1 (by show t.1 ∈ _; rw [e]; exact hq)
    · rw [if_neg e, putD_ne (fun z => e (Sum.inl.inj z)), put_enc h2]; rfl
end Dct
set_option Elab.async false
set_option linter.all false
set_option maxRecDepth 100000
set_option maxHeartbeats 4000000
namespace K22
open PySem PySem.Spec L2 PV
open PyProof.Rows (envOfC)
open Pol Dct
def top (i : Nat) : Stmt := PySem.Challenge.pw_tanglehouse_k22_polynomials_reckoned.main.body.getD i (.Pass ⟨0, 0, 0, 0⟩)
structure Bn (mg : Str → Option Value) : Prop where
  nb_bool : mg "bool" = none
  nb_int : mg "int" = none
  nb_isinstance : mg "isinstance" = none
  nb_len : mg "len" = none
  nb_list : mg "list" = none
  nb_min : mg "min" = none
  nb_range : mg "range" = none
  nb_reversed : mg "reversed" = none
  nb_sorted : mg "sorted" = none
  nb_tuple : mg "tuple" = none
def g_gathered : GA := fun ds k => ∃ ts : T, (ds = [.lst (ts.map pr2)] ∨ ds = [.tup (ts.map pr2)]) ∧ ts.length ≤ 50000 ∧ ∀ us : T, Is us → us.length ≤ ts.length → nrm us ≤ nrm ts → (∀ f, ev f us = ev f ts) → k (.tup (us.map pr2))
abbrev s_gathered : Stmt := top 1
theorem sc_gathered : FnScope ["terms", "numbers", "power", "number"] ["terms"] (defScope s_gathered) := ⟨rfl, rfl, rfl, by decide +kernel, rfl, by decide +kernel, by decide +kernel⟩
def t_gathered : Tg := ⟨fun i => i == 1 || i == 2 || i == 3, []⟩
def w_gathered : WS := (wSeq (wSet 1 (wC (.dik [])))
  (wSeq (wFor (wSeqD (wVar 0)) (gTupD 2 (gConsD (gN 2) (gConsD (gN 3) gNilD))) (wSetIx 1 (wBin dAddT (wGet2 (wVar 1) (wVar 2) (wC (.int 0))) (wVar 3)) (wVar 2)))
  (wRet (wCall dTuple (wCons (wComp (wSeqD (wCall dSortDL (wCons (wVar 1) wNil))) (wBl (wBin dNe (wBin dIx (wVar 1) (wVar 0)) (wC (.int 0)))) (wLift (wTup (wCons (wVar 0) (wCons (wBin dIx (wVar 1) (wVar 0)) wNil)))) [1]) wNil)))))
theorem b_gathered {P : Program} {w : World} {K : PySem.W.Frag} {mg : Str → Option Value} {base : Heap} {f : Addr} (B : Bn mg) : ∀ (cdv : Value) (A : Around) (outer : List PySem.Env) (s : Shared) (H : Hp) (E : XK), Room 0 (A.deeper (envOfC "gathered" (defScope s_gathered) s.heap.objs.size f cdv)) → SVs (cxOf CX0 P w K mg base ["terms", "numbers", "power", "number"] "gathered" (defScope s_gathered) f cdv A outer s H E).nox t_gathered (defBody s_gathered) w_gathered := fun cdv A outer s H E hr =>
    (svs_cons (sv_set (i := 1) ev_dnewK sc_gathered.nd)
    (svs_cons (sv_for PassesOwn.never (iv_par (i := 0)) (gv_tup (gvs_cons (gv_name (i := 2) sc_gathered.nd) (gvs_cons (gv_name (i := 3) sc_gathered.nd) gvs_nil))) (svs_one (sv_setIx (i := 1) (hu_of hr) (ev_op od_addT (ev_get2 (hu_of hr) (ev_var 1) (ev_var 2) ev_int) (ev_var 3)) (ev_var 2))))
    (svs_one (sv_ret (ev_callTy cd_tuple B.nb_tuple bt_tuple (av_cons (ev_compB (comp_ok [1] (iv_seq (ev_callB (cd_sortDL rfl) B.nb_sorted bt_sorted (av_cons (ev_var 1) av_nil))) (fun _ _ _ _ _ => cv_one (tv_cmp (od_ne hr.units) (ev_ix (xd_ix (hu_of hr)) (ev_var 1) (ev_var 0)) ev_int)) (fun _ _ _ _ _ => (ev_lift (ev_tup (av_cons (ev_var 0) (av_cons (ev_ix (xd_ix (hu_of hr)) (ev_var 1) (ev_var 0)) av_nil)))))) (compB_mk (defScope s_gathered) ["terms", "numbers", "power", "number"] (by decide +kernel))) av_nil))))))
theorem run_gathered {kk : D → Prop} {d0 : D} {ts : T} (hl : ts.length ≤ 50000) (k : ∀ us : T, Is us → us.length ≤ ts.length → nrm us ≤ nrm ts → (∀ f, ev f us = ev f ts) → kk (.tup (us.map pr2))) :
    forI (ts.map pr2) (gTupD 2 (gConsD (gN 2) (gConsD (gN 3) gNilD))) (wSetIx 1 (wBin dAddT (wGet2 (wVar 1) (wVar 2) (wC (.int 0))) (wVar 3)) (wVar 2))
      { nx := wRet (wCall dTuple (wCons (wComp (wSeqD (wCall dSortDL (wCons (wVar 1) wNil))) (wBl (wBin dNe (wBin dIx (wVar 1) (wVar 0)) (wC (.int 0)))) (wLift (wTup (wCons (wVar 0) (wCons (wBin dIx (wVar 1) (wVar 0)) wNil)))) [1]) wNil)) { nx := fun ρ => kk .non, rt := fun d ρ => kk d }, rt := fun d ρ => kk d }
      [some d0, some (.dik []), none, none] := by
  refine ⟨fun i ρ => ∃ (a : T) (o2 o3 : Option D), (a.map (·.1)).Nodup ∧ a.length ≤ i ∧ i ≤ ts.length ∧ nrm a ≤ nrm (ts.take i) ∧ (∀ f, ev f a = ev f (ts.take i)) ∧ ρ = [some d0, some (.dik (enc a)), o2, o3], ⟨[], none, none, .nil, Nat.le_refl _, Nat.zero_le _, Nat.le_refl _, fun _ => rfl, rfl⟩, ?_, ?_⟩
  · rintro i d ρ hd ⟨a, o2, o3, hnd, hal, hil, hnm, hev, rfl⟩
    rw [List.getElem?_map] at hd
    obtain ⟨t, ht, hd⟩ := Option.map_eq_some_iff.mp hd
    subst hd
    have hi := (List.getElem?_eq_some_iff.mp ht).1
    have e : ts.take (i + 1) = ts.take i ++ [t] := by rw [List.take_add_one, ht]; rfl
    simp only [pr2, wSetIx, wBin, wGet2, wC, D.pure, r_var, true_and, r_gTup, List.length_cons, List.length_nil, Nat.zero_add, Nat.reduceAdd, r_gCons, gN, List.set_cons_succ, List.set_cons_zero, r_gNil, look, Option.isSome_some, oget_s, r_setDi, enc_len, r2_noD, r2_get, val_getD, r2_add, put_enc hnd]
    refine ⟨small (by omega), put a t.1 (get a t.1 + t.2), _, _, put_nodup hnd, Nat.le_trans put_length (by omega), by omega, ?_, fun f => ?_, rfl⟩
    · rw [e, nrm_append]
      have := put_nrm (p := t.1) (n := t.2) (a := a)
      show _ ≤ _ + (t.2.natAbs + 0)
      omega
    · rw [e, put_ev, ev_append, hev]
      show _ = _ + (t.2 * f t.1 + 0)
      omega
  · rintro ρ ⟨a, o2, o3, hnd, hal, hil, hnm, hev, rfl⟩
    rw [List.length_map, List.take_of_length_le (Nat.le_refl _)] at *
    simp only [wRet, wCall, wCons, wNil, r_comp, r_seq, r_var, look, oget_s, r7_sortDL, r_seqL]
    refine ⟨_, enc_keys, by rw [enc_len]; omega, fun out hp ho => ?_⟩
    obtain ⟨g1, g2, g3, g4⟩ := gather hnd hp ho
    have hol : out.length = a.length := by rw [hp.length_eq, List.length_map]
    refine ⟨fun i ys => i ≤ out.length ∧ ys = (nzf ((out.take i).map fun p => (p, get a p))).map pr2, ⟨Nat.zero_le _, rfl⟩, ?_, ?_⟩
    · rintro i d ys hd ⟨hio, rfl⟩
      rw [List.getElem?_map] at hd
      obtain ⟨p, hpp, hd⟩ := Option.map_eq_some_iff.mp hd
      subst hd
      have hi := (List.getElem?_eq_some_iff.mp hpp).1
      have hv := val_some (hp.mem_iff.mp (List.mem_of_getElem? hpp))
      have e : out.take (i + 1) = out.take i ++ [p] := by rw [List.take_add_one, hpp]; rfl
      have hlen : (nzf ((out.take i).map fun p => (p, get a p))).length ≤ i := by
        refine Nat.le_trans (List.length_filter_le _ _) ?_
        rw [List.length_map, List.length_take]; omega
      refine ⟨by rw [List.length_map]; exact small (by omega), ?_⟩
      simp only [blkE, List.map_cons, look, List.map_nil, wLift, wTup, wCons, wBin, wNil, List.length_cons, List.length_nil, Nat.zero_add, Nat.reduceAdd, sz2, D.pure, pureL, Bool.and_true, true_and, r_var, oget_s, r_ixDi, hv, r_bl, wC, r_neI, r_blOf]
      rw [e, List.map_append]
      unfold nzf at *
      rw [List.filter_append]
      by_cases h0 : get a p = 0
      · simp only [h0, decide_true, Bool.not_true, Bool.false_eq_true, reduceIte]
        refine ⟨by omega, ?_⟩
        rw [show ([p].map fun p => (p, get a p)).filter (fun t => decide (t.2 ≠ 0)) = [] by simp [h0], List.append_nil]
      · simp only [h0, decide_false, Bool.not_false, reduceIte]
        refine ⟨by omega, ?_⟩
        rw [show ([p].map fun p => (p, get a p)).filter (fun t => decide (t.2 ≠ 0)) = [(p, get a p)] by simp [h0], List.map_append]
        rfl
    · rintro ys ⟨_, rfl⟩
      have e0 : out.take (out.map D.int).length = out := by rw [List.length_map]; exact List.take_of_length_le (Nat.le_refl _)
      rw [e0]
      simp only [List.length_map, r_tupL, pure_two, true_and]
      refine ⟨Nat.le_of_lt (small (by omega)), ?_⟩
      exact k _ g1 (by omega) (by omega) fun f => by rw [g2, hev]
theorem ok_gathered {P : Program} {w : World} {K : PySem.W.Frag} {mg : Str → Option Value} {base : Heap} {f : Addr} {fd : FuncData} (F : Fun K "gathered" "gathered" s_gathered f fd) (B : Bn mg) : FnOk P w K mg base CX0 1 f fd ["terms"] (spR K g_gathered) := by
  refine fn_ro (T := t_gathered) F sc_gathered rfl (by decide) (fun ds kk h => ?_) (b_gathered B) (fun ds kk h => ?_)
  · obtain ⟨ts, rfl | rfl, _⟩ := h
    · rfl
    · rfl
  · obtain ⟨ts, rfl | rfl, hl, k⟩ := h
    · simp only [w_gathered, env0, rowD, List.length_cons, List.length_nil, List.map_cons, List.map_nil, List.cons_append, List.nil_append, List.replicate, wSeq, wSet, r_for, r_seq, r_var, wC, oget_s, look, List.set_cons_zero, List.set_cons_succ, List.getElem?_cons_zero, List.getElem?_cons_succ, r_seqL, pure_two, true_and]
      exact run_gathered hl k
    · simp only [w_gathered, env0, rowD, List.length_cons, List.length_nil, List.map_cons, List.map_nil, List.cons_append, List.nil_append, List.replicate, wSeq, wSet, r_for, r_seq, r_var, wC, oget_s, look, List.set_cons_zero, List.set_cons_succ, List.getElem?_cons_zero, List.getElem?_cons_succ, r_seqT, pure_two, true_and]
      exact run_gathered hl k
end K22
set_option Elab.async false
set_option linter.all false
set_option maxRecDepth 100000
set_option maxHeartbeats 4000000
namespace K22
open PySem PySem.Spec L2 PV
open PyProof.Rows (envOfC)
open Pol Dct
theorem compI2_map {ts : T} {we : WE} {ρ1 : PV.Env} {ix : List Nat} {Q : D → PV.Env → Prop} (g : Int × Int → D) (hz : ts.length < sizeLine) (he : ∀ t ∈ ts, ∀ Q' : D → PV.Env → Prop, Q' (g t) (blkE2 ρ1 (.int t.1) (.int t.2) ix) → we (blkE2 ρ1 (.int t.1) (.int t.2) ix) Q') (hQ : Q (.lst (ts.map g)) ρ1) : compI2 (ts.map pr2) wAll we ρ1 ix Q := by
  refine ⟨fun i ys => i ≤ ts.length ∧ ys = (ts.take i).map g, ⟨Nat.zero_le _, rfl⟩, ?_, ?_⟩
  · rintro i d ys hd ⟨hi, rfl⟩
    rw [List.getElem?_map] at hd
    obtain ⟨t, ht, hd⟩ := Option.map_eq_some_iff.mp hd
    subst hd
    have hlt := (List.getElem?_eq_some_iff.mp ht).1
    refine ⟨by rw [List.length_map, List.length_take]; omega, ?_⟩
    simp only [pr2, r4_two, wAll, reduceIte]
    refine he t (List.mem_of_getElem? ht) _ ⟨hlt, ?_⟩
    rw [List.take_add_one, ht, List.map_append]; rfl
  · rintro ys ⟨_, rfl⟩
    have e0 : ts.take (ts.map pr2).length = ts := by rw [List.length_map]; exact List.take_of_length_le (Nat.le_refl _)
    rw [e0]
    exact ⟨by rw [List.length_map]; exact Nat.le_of_lt hz, hQ⟩
def g_plus : GA := fun ds k => ∃ a b : T, ds = [.tup (a.map pr2), .tup (b.map pr2)] ∧ a.length + b.length ≤ 50000 ∧ ∀ us : T, Is us → us.length ≤ a.length + b.length → nrm us ≤ nrm a + nrm b → (∀ f, ev f us = ev f a + ev f b) → k (.tup (us.map pr2))
abbrev s_plus : Stmt := top 2
theorem sc_plus : FnScope ["one", "other"] ["one", "other"] (defScope s_plus) := ⟨rfl, rfl, rfl, by decide +kernel, rfl, by decide +kernel, by decide +kernel⟩
def t_plus : Tg := ⟨fun i => false, []⟩
def w_plus : WS := (wRet (wCall g_gathered (wCons (wBin dAddT (wVar 0) (wVar 1)) wNil)))
theorem b_plus {P : Program} {w : World} {K : PySem.W.Frag} {mg : Str → Option Value} {base : Heap} {f : Addr} (B : Bn mg) (C_gathered : Cal P w K mg base "gathered" 1 ["terms"] (spR K g_gathered)) : ∀ (cdv : Value) (A : Around) (outer : List PySem.Env) (s : Shared) (H : Hp) (E : XK), Room 1 (A.deeper (envOfC "plus" (defScope s_plus) s.heap.objs.size f cdv)) → SVs (cxOf CX0 P w K mg base ["one", "other"] "plus" (defScope s_plus) f cdv A outer s H E).nox t_plus (defBody s_plus) w_plus := fun cdv A outer s H E hr =>
    (svs_one (sv_ret (ev_callC C_gathered (hr.mono (by decide)) (av_cons (ev_op od_addT (ev_var 0) (ev_var 1)) av_nil))))
theorem ok_plus {P : Program} {w : World} {K : PySem.W.Frag} {mg : Str → Option Value} {base : Heap} {f : Addr} {fd : FuncData} (F : Fun K "plus" "plus" s_plus f fd) (B : Bn mg) (C1 : Cal P w K mg base "gathered" 1 ["terms"] (spR K g_gathered)) : FnOk P w K mg base CX0 2 f fd ["one", "other"] (spR K g_plus) := by
  refine fn_ro (T := t_plus) F sc_plus rfl (by decide) (fun ds kk h => ?_) (b_plus B C1) (fun ds kk h => ?_)
  · obtain ⟨a, b, rfl, _⟩ := h
    rfl
  · obtain ⟨a, b, rfl, hl, k⟩ := h
    simp only [w_plus, wRet, wCall, wCons, wBin, env0, List.map_cons, List.map_nil, List.length_cons, List.length_nil, Nat.zero_add, Nat.reduceAdd, List.cons_append, List.nil_append, wNil, r_var, look, oget_s, r2_addT, pure_two, List.length_map, true_and]
    refine ⟨Nat.le_of_lt (small (by omega)), a ++ b, .inr (by rw [List.map_append]), by rw [List.length_append]; exact hl, fun us h1 h2 h3 h4 => ?_⟩
    exact k us h1 (by rw [List.length_append] at h2; exact h2) (by rw [nrm_append] at h3; exact h3) fun f => by rw [h4, ev_append]
def g_minus : GA := fun ds k => ∃ a b : T, ds = [.tup (a.map pr2), .tup (b.map pr2)] ∧ a.length + b.length ≤ 50000 ∧ ∀ us : T, Is us → us.length ≤ a.length + b.length → nrm us ≤ nrm a + nrm b → (∀ f, ev f us = ev f a - ev f b) → k (.tup (us.map pr2))
abbrev s_minus : Stmt := top 3
theorem sc_minus : FnScope ["one", "other"] ["one", "other"] (defScope s_minus) := ⟨rfl, rfl, rfl, by decide +kernel, rfl, by decide +kernel, by decide +kernel⟩
def t_minus : Tg := ⟨fun i => false, []⟩
def w_minus : WS := (wRet (wCall g_gathered (wCons (wBin dAddT (wVar 0) (wCall dTuple (wCons (wComp2 (wSeqD (wVar 1)) wAll (wLift (wTup (wCons (wVar 0) (wCons (wUn dNeg (wVar 1)) wNil)))) []) wNil))) wNil)))
theorem b_minus {P : Program} {w : World} {K : PySem.W.Frag} {mg : Str → Option Value} {base : Heap} {f : Addr} (B : Bn mg) (C_gathered : Cal P w K mg base "gathered" 1 ["terms"] (spR K g_gathered)) : ∀ (cdv : Value) (A : Around) (outer : List PySem.Env) (s : Shared) (H : Hp) (E : XK), Room 1 (A.deeper (envOfC "minus" (defScope s_minus) s.heap.objs.size f cdv)) → SVs (cxOf CX0 P w K mg base ["one", "other"] "minus" (defScope s_minus) f cdv A outer s H E).nox t_minus (defBody s_minus) w_minus := fun cdv A outer s H E hr =>
    (svs_one (sv_ret (ev_callC C_gathered (hr.mono (by decide)) (av_cons (ev_op od_addT (ev_var 0) (ev_callTy cd_tuple B.nb_tuple bt_tuple (av_cons (ev_comp2 (comp_ok2 [] (iv_seq (ev_var 1)) (fun _ _ _ _ _ => cv_nil) (fun _ _ _ _ _ => (ev_lift (ev_tup (av_cons (ev_var 0) (av_cons (ev_un ud_neg (ev_var 1)) av_nil)))))) (compB2_mk (defScope s_minus) ["one", "other"] (by decide +kernel))) av_nil))) av_nil))))
theorem ok_minus {P : Program} {w : World} {K : PySem.W.Frag} {mg : Str → Option Value} {base : Heap} {f : Addr} {fd : FuncData} (F : Fun K "minus" "minus" s_minus f fd) (B : Bn mg) (C1 : Cal P w K mg base "gathered" 1 ["terms"] (spR K g_gathered)) : FnOk P w K mg base CX0 2 f fd ["one", "other"] (spR K g_minus) := by
  refine fn_ro (T := t_minus) F sc_minus rfl (by decide) (fun ds kk h => ?_) (b_minus B C1) (fun ds kk h => ?_)
  · obtain ⟨a, b, rfl, _⟩ := h
    rfl
  · obtain ⟨a, b, rfl, hl, k⟩ := h
    simp only [w_minus, wRet, wCall, wCons, wBin, env0, List.map_cons, List.map_nil, List.length_cons, List.length_nil, Nat.zero_add, Nat.reduceAdd, List.cons_append, List.nil_append, wComp2, wNil, r_seq, r_var, look, oget_s, r_seqT, pure_two, true_and]
    refine compI2_map (fun t => pr2 (t.1, -t.2)) (small (by omega)) (fun t ht Q' hQ => ?_) ?_
    · simp only [wLift, wTup, wCons, blkE2, List.map_nil, wUn, wNil, List.length_cons, List.length_nil, Nat.zero_add, Nat.reduceAdd, sz2, D.pure, pureL, Bool.and_true, true_and, r_var, look, oget_s, r_neg]
      exact hQ
    · have e : (b.map fun t => pr2 (t.1, -t.2)) = (neg b).map pr2 := by unfold neg; rw [List.map_map]; rfl
      rw [e]
      have hn : (neg b).length = b.length := List.length_map ..
      simp only [r_tupL, pure_two, r2_addT, List.length_map, hn, true_and]
      refine ⟨Nat.le_of_lt (small (by omega)), a ++ neg b, .inr (by rw [List.map_append]), by rw [List.length_append, hn]; exact hl, fun us h1 h2 h3 h4 => ?_⟩
      exact k us h1 (by rw [List.length_append, hn] at h2; exact h2) (by rw [nrm_append, nrm_neg] at h3; exact h3) fun f => by rw [h4, ev_append, ev_neg]; omega
def g_times : GA := fun ds k => ∃ a b : T, ds = [.tup (a.map pr2), .tup (b.map pr2)] ∧ a.length * b.length ≤ 50000 ∧ b.length ≤ 50000 ∧ nrm a < 2 ^ 2000 ∧ nrm b < 2 ^ 2000 ∧ ∀ us : T, Is us → us.length ≤ a.length * b.length → nrm us ≤ nrm a * nrm b → (∀ f, ev f us = ev (fun q => ev (fun r => f (q + r)) b) a) → k (.tup (us.map pr2))
theorem mul_snoc {a b : T} {t : Int × Int} : mul (a ++ [t]) b = mul a b ++ b.map fun u => (t.1 + u.1, t.2 * u.2) := by
  unfold mul
  rw [List.flatMap_append, List.flatMap_cons, List.flatMap_nil, List.append_nil]
theorem mul_length {b : T} : ∀ {a : T}, (mul a b).length = a.length * b.length
  | [] => by simp [mul]
  | t :: a => by
    show (b.map _ ++ mul a b).length = _
    rw [List.length_append, List.length_map, mul_length, List.length_cons, Nat.add_mul]; omega
abbrev s_times : Stmt := top 4
theorem sc_times : FnScope ["one", "other", "terms", "power", "number"] ["one", "other"] (defScope s_times) := ⟨rfl, rfl, rfl, by decide +kernel, rfl, by decide +kernel, by decide +kernel⟩
def t_times : Tg := ⟨fun i => i == 2 || i == 3 || i == 4, []⟩
def w_times : WS := (wSeq (wSet 2 (wLst wNil))
  (wSeq (wFor (wSeqD (wLift (wVar 0))) (gTupD 2 (gConsD (gN 3) (gConsD (gN 4) gNilD))) (wDrop (wMt 2 "list" gExtend (wCons (wComp2 (wSeqD (wVar 1)) wAll (wTup (wCons (wBin dAddT (wVar 3) (wVar 0)) (wCons (wBin dMulB (wVar 2) (wVar 1)) wNil))) [4, 3]) wNil))))
  (wRet (wCall g_gathered (wCons (wVar 2) wNil)))))
theorem b_times {P : Program} {w : World} {K : PySem.W.Frag} {mg : Str → Option Value} {base : Heap} {f : Addr} (B : Bn mg) (C_gathered : Cal P w K mg base "gathered" 1 ["terms"] (spR K g_gathered)) : ∀ (cdv : Value) (A : Around) (outer : List PySem.Env) (s : Shared) (H : Hp) (E : XK), Room 1 (A.deeper (envOfC "times" (defScope s_times) s.heap.objs.size f cdv)) → SVs (cxOf CX0 P w K mg base ["one", "other", "terms", "power", "number"] "times" (defScope s_times) f cdv A outer s H E).nox t_times (defBody s_times) w_times := fun cdv A outer s H E hr =>
    (svs_cons (sv_set (i := 2) (ev_lst av_nil) sc_times.nd)
    (svs_cons (sv_for PassesOwn.never (iv_seq (ev_lift (ev_var 0))) (gv_tup (gvs_cons (gv_name (i := 3) sc_times.nd) (gvs_cons (gv_name (i := 4) sc_times.nd) gvs_nil))) (svs_one (sv_expr (ev_mt (i := 2) md_extend PySem.F.plainAttrs_list PySem.F.slot_list_extend PySem.F.type_list_extend (av_cons (ev_comp2 (comp_ok2 [4, 3] (iv_seq (ev_var 1)) (fun _ _ _ _ _ => cv_nil) (fun _ _ _ _ _ => (ev_tup (av_cons (ev_op od_addT (ev_var 3) (ev_var 0)) (av_cons (ev_op od_mulB (ev_var 2) (ev_var 1)) av_nil))))) (compB2_mk (defScope s_times) ["one", "other", "terms", "power", "number"] (by decide +kernel))) av_nil)))))
    (svs_one (sv_ret (ev_callC C_gathered (hr.mono (by decide)) (av_cons (ev_var 2) av_nil))))))
theorem ok_times {P : Program} {w : World} {K : PySem.W.Frag} {mg : Str → Option Value} {base : Heap} {f : Addr} {fd : FuncData} (F : Fun K "times" "times" s_times f fd) (B : Bn mg) (C1 : Cal P w K mg base "gathered" 1 ["terms"] (spR K g_gathered)) : FnOk P w K mg base CX0 2 f fd ["one", "other"] (spR K g_times) := by
  refine fn_ro (T := t_times) F sc_times rfl (by decide) (fun ds kk h => ?_) (b_times B C1) (fun ds kk h => ?_)
  · obtain ⟨a, b, rfl, _⟩ := h
    rfl
  · obtain ⟨a, b, rfl, hl, hb, hna, hnb, k⟩ := h
    simp only [w_times, wSeq, wSet, wLst, wNil, List.length_nil, sz0, env0, List.map_cons, List.map_nil, List.length_cons, Nat.zero_add, Nat.reduceAdd, List.replicate, List.cons_append, List.nil_append, List.set_cons_succ, List.set_cons_zero, r_for, r_seq, wLift, r_var, look, oget_s, D.pure, pure_two, r_seqT, true_and]
    refine ⟨fun i ρ => ∃ o3 o4 : Option D, i ≤ a.length ∧ ρ = [some (.tup (a.map pr2)), some (.tup (b.map pr2)), some (.lst ((mul (a.take i) b).map pr2)), o3, o4], ⟨none, none, Nat.zero_le _, rfl⟩, ?_, ?_⟩
    · rintro i d ρ hd ⟨o3, o4, hi, rfl⟩
      rw [List.getElem?_map] at hd
      obtain ⟨t, ht, hd⟩ := Option.map_eq_some_iff.mp hd
      subst hd
      have hlt := (List.getElem?_eq_some_iff.mp ht).1
      have ht2 : t.2.natAbs < 2 ^ 2000 := Nat.lt_of_le_of_lt (nrm_mem (List.mem_of_getElem? ht)) hna
      have e : a.take (i + 1) = a.take i ++ [t] := by rw [List.take_add_one, ht]; rfl
      have hml : (mul (a.take i) b).length + b.length ≤ 50000 := by
        have h1 : (a.take (i + 1)).length * b.length ≤ a.length * b.length := Nat.mul_le_mul_right _ (by rw [List.length_take]; omega)
        have h2 : (mul (a.take (i + 1)) b).length = (mul (a.take i) b).length + b.length := by rw [e, mul_snoc, List.length_append, List.length_map]
        rw [← mul_length, h2] at h1
        omega
      simp only [pr2, wDrop, wMt, wCons, wComp2, wNil, r_seq, r_var, r_gTup, List.length_cons, List.length_nil, Nat.zero_add, Nat.reduceAdd, r_gCons, gN, List.set_cons_succ, List.set_cons_zero, r_gNil, look, r_tyL, BEq.rfl, oget_s, r_seqT, pure_two, true_and]
      refine compI2_map (fun u => pr2 (t.1 + u.1, t.2 * u.2)) (small (by omega)) (fun u hu Q' hQ => ?_) ?_
      · have hu2 : u.2.natAbs < 2 ^ 2000 := Nat.lt_of_le_of_lt (nrm_mem hu) hnb
        simp only [wTup, wCons, wBin, blkE2, List.map_cons, look, List.map_nil, wNil, List.length_cons, List.length_nil, Nat.zero_add, Nat.reduceAdd, sz2, true_and, r_var, oget_s, r8_mulB, r2_add]
        exact ⟨ht2, hu2, hQ⟩
      · have e2 : (b.map fun u => pr2 (t.1 + u.1, t.2 * u.2)) = (b.map fun u => (t.1 + u.1, t.2 * u.2)).map pr2 := by rw [List.map_map]; rfl
        rw [e2]
        simp only [look, List.set_cons_succ, List.set_cons_zero, oget_s, S03.r5_ext, pure_two, List.length_map, true_and]
        refine ⟨Nat.le_of_lt (small (by omega)), some (.int t.1), some (.int t.2), hlt, ?_⟩
        rw [e, mul_snoc, List.map_append]
    · rintro ρ ⟨o3, o4, _, rfl⟩
      rw [List.length_map, List.take_of_length_le (Nat.le_refl _)]
      simp only [wRet, wCall, wCons, wNil, r_var, look, oget_s]
      refine ⟨mul a b, .inl rfl, by rw [mul_length]; exact hl, fun us h1 h2 h3 h4 => ?_⟩
      exact k us h1 (by rw [mul_length] at h2; exact h2) (by rw [nrm_mul] at h3; exact h3) fun f => by rw [h4, ev_mul]
def g_lifted : GA := fun ds k => ∃ (a : T) (m : Int), ds = [.tup (a.map pr2), .int m] ∧ a.length ≤ 50000 ∧ k (.tup ((lift a m).map pr2))
abbrev s_lifted : Stmt := top 5
theorem sc_lifted : FnScope ["one", "many"] ["one", "many"] (defScope s_lifted) := ⟨rfl, rfl, rfl, by decide +kernel, rfl, by decide +kernel, by decide +kernel⟩
def t_lifted : Tg := ⟨fun i => false, []⟩
def w_lifted : WS := (wRet (wCall dTuple (wCons (wComp2 (wSeqD (wVar 0)) wAll (wLift (wTup (wCons (wBin dAddT (wVar 0) (wVar 2)) (wCons (wVar 1) wNil)))) [1]) wNil)))
theorem b_lifted {P : Program} {w : World} {K : PySem.W.Frag} {mg : Str → Option Value} {base : Heap} {f : Addr} (B : Bn mg) : ∀ (cdv : Value) (A : Around) (outer : List PySem.Env) (s : Shared) (H : Hp) (E : XK), Room 0 (A.deeper (envOfC "lifted" (defScope s_lifted) s.heap.objs.size f cdv)) → SVs (cxOf CX0 P w K mg base ["one", "many"] "lifted" (defScope s_lifted) f cdv A outer s H E).nox t_lifted (defBody s_lifted) w_lifted := fun cdv A outer s H E hr =>
    (svs_one (sv_ret (ev_callTy cd_tuple B.nb_tuple bt_tuple (av_cons (ev_comp2 (comp_ok2 [1] (iv_seq (ev_var 0)) (fun _ _ _ _ _ => cv_nil) (fun _ _ _ _ _ => (ev_lift (ev_tup (av_cons (ev_op od_addT (ev_var 0) (ev_var 2)) (av_cons (ev_var 1) av_nil)))))) (compB2_mk (defScope s_lifted) ["one", "many"] (by decide +kernel))) av_nil))))
theorem ok_lifted {P : Program} {w : World} {K : PySem.W.Frag} {mg : Str → Option Value} {base : Heap} {f : Addr} {fd : FuncData} (F : Fun K "lifted" "lifted" s_lifted f fd) (B : Bn mg) : FnOk P w K mg base CX0 1 f fd ["one", "many"] (spR K g_lifted) := by
  refine fn_ro (T := t_lifted) F sc_lifted rfl (by decide) (fun ds kk h => ?_) (b_lifted B) (fun ds kk h => ?_)
  · obtain ⟨a, m, rfl, _⟩ := h
    rfl
  · obtain ⟨a, m, rfl, hl, k⟩ := h
    simp only [w_lifted, wRet, wCall, wCons, wComp2, env0, List.map_cons, List.map_nil, List.length_cons, List.length_nil, Nat.zero_add, Nat.reduceAdd, List.cons_append, List.nil_append, wNil, r_seq, r_var, look, oget_s, r_seqT, pure_two, true_and]
    refine compI2_map (fun t => pr2 (t.1 + m, t.2)) (small (by omega)) (fun t ht Q' hQ => ?_) ?_
    · simp only [wLift, wTup, wCons, wBin, blkE2, List.map_cons, look, List.map_nil, wNil, List.length_cons, List.length_nil, Nat.zero_add, Nat.reduceAdd, sz2, D.pure, pureL, Bool.and_true, true_and, r_var, oget_s, r2_add]
      exact hQ
    · have e : (a.map fun t => pr2 (t.1 + m, t.2)) = (lift a m).map pr2 := by unfold lift; rw [List.map_map]; rfl
      rw [e]
      simp only [r_tupL, pure_two, true_and]
      exact k
def g_turned_about : GA := fun ds k => ∃ a : T, ds = [.tup (a.map pr2)] ∧ a.length ≤ 50000 ∧ k (.tup ((turn a).map pr2))
abbrev s_turned_about : Stmt := top 6
theorem sc_turned_about : FnScope ["one"] ["one"] (defScope s_turned_about) := ⟨rfl, rfl, rfl, by decide +kernel, rfl, by decide +kernel, by decide +kernel⟩
def t_turned_about : Tg := ⟨fun i => false, []⟩
def w_turned_about : WS := (wRet (wCall dTuple (wCons (wComp2 (wRev (wCons (wVar 0) wNil)) wAll (wLift (wTup (wCons (wUn dNeg (wVar 0)) (wCons (wVar 1) wNil)))) []) wNil)))
theorem b_turned_about {P : Program} {w : World} {K : PySem.W.Frag} {mg : Str → Option Value} {base : Heap} {f : Addr} (B : Bn mg) : ∀ (cdv : Value) (A : Around) (outer : List PySem.Env) (s : Shared) (H : Hp) (E : XK), Room 0 (A.deeper (envOfC "turned_about" (defScope s_turned_about) s.heap.objs.size f cdv)) → SVs (cxOf CX0 P w K mg base ["one"] "turned_about" (defScope s_turned_about) f cdv A outer s H E).nox t_turned_about (defBody s_turned_about) w_turned_about := fun cdv A outer s H E hr =>
    (svs_one (sv_ret (ev_callTy cd_tuple B.nb_tuple bt_tuple (av_cons (ev_comp2 (comp_ok2 [] (iv_rev B.nb_reversed (av_cons (ev_var 0) av_nil)) (fun _ _ _ _ _ => cv_nil) (fun _ _ _ _ _ => (ev_lift (ev_tup (av_cons (ev_un ud_neg (ev_var 0)) (av_cons (ev_var 1) av_nil)))))) (compB2_mk (defScope s_turned_about) ["one"] (by decide +kernel))) av_nil))))
theorem ok_turned_about {P : Program} {w : World} {K : PySem.W.Frag} {mg : Str → Option Value} {base : Heap} {f : Addr} {fd : FuncData} (F : Fun K "turned_about" "turned_about" s_turned_about f fd) (B : Bn mg) : FnOk P w K mg base CX0 1 f fd ["one"] (spR K g_turned_about) := by
  refine fn_ro (T := t_turned_about) F sc_turned_about rfl (by decide) (fun ds kk h => ?_) (b_turned_about B) (fun ds kk h => ?_)
  · obtain ⟨a, rfl, _⟩ := h
    rfl
  · obtain ⟨a, rfl, hl, k⟩ := h
    simp only [w_turned_about, wRet, wCall, wCons, wComp2, wRev, env0, List.map_cons, List.map_nil, List.length_cons, List.length_nil, Nat.zero_add, List.cons_append, List.nil_append, wNil, r_var, look, oget_s, r8_rev, pure_two, true_and]
    rw [← List.map_reverse]
    refine compI2_map (fun t => pr2 (-t.1, t.2)) (by rw [List.length_reverse]; exact small (by omega)) (fun t ht Q' hQ => ?_) ?_
    · simp only [wLift, wTup, wCons, wUn, blkE2, List.map_nil, wNil, List.length_cons, List.length_nil, Nat.zero_add, Nat.reduceAdd, sz2, D.pure, pureL, Bool.and_true, true_and, r_var, look, oget_s, r_neg]
      exact hQ
    · have e : (a.reverse.map fun t => pr2 (-t.1, t.2)) = (turn a).map pr2 := by unfold turn; rw [List.map_map]; rfl
      rw [e]
      simp only [r_tupL, pure_two, true_and]
      exact k
end K22
set_option Elab.async false
set_option linter.all false
set_option maxRecDepth 100000
set_option maxHeartbeats 4000000
namespace K22
open PySem PySem.Spec L2 PV
open PyProof.Rows (envOfC)
open Pol Dct
def g_law_cell_at : GA := fun ds k => ∃ (ns : List Int) (i : Int), ds = [.kls (ns.map .int), .int i] ∧ 0 ≤ i ∧ ∀ c : Int, k (.int c)
abbrev s__law_cell_at : Stmt := top 8
theorem sc__law_cell_at : FnScope ["_law_script", "_law_k"] ["_law_script", "_law_k"] (defScope s__law_cell_at) := ⟨rfl, rfl, rfl, by decide +kernel, rfl, by decide +kernel, by decide +kernel⟩
def t__law_cell_at : Tg := ⟨fun i => false, []⟩
def w__law_cell_at : WS := (wSeq (wIf (wBl (wBin (dCmp fun i j => decide (i < j)) (wVar 1) (wCall dLen (wCons (wVar 0) wNil)))) (wRet (wLift (wBin dIx (wVar 0) (wVar 1)))) wNext)
  (wRet (wC (.int 0))))
theorem b__law_cell_at {P : Program} {w : World} {K : PySem.W.Frag} {mg : Str → Option Value} {base : Heap} {f : Addr} (B : Bn mg) : ∀ (cdv : Value) (A : Around) (outer : List PySem.Env) (s : Shared) (H : Hp) (E : XK), Room 0 (A.deeper (envOfC "_law_cell_at" (defScope s__law_cell_at) s.heap.objs.size f cdv)) → SVs (cxOf CX0 P w K mg base ["_law_script", "_law_k"] "_law_cell_at" (defScope s__law_cell_at) f cdv A outer s H E).nox t__law_cell_at (defBody s__law_cell_at) w__law_cell_at := fun cdv A outer s H E hr =>
    (svs_cons (sv_if (tv_cmp od_lt (ev_var 1) (ev_callB cd_len B.nb_len bt_len (av_cons (ev_var 0) av_nil))) (svs_one (sv_ret (ev_lift (ev_ix (xd_ix (hu_of hr)) (ev_var 0) (ev_var 1))))) svs_nil)
    (svs_one (sv_ret ev_int)))
theorem ok__law_cell_at {P : Program} {w : World} {K : PySem.W.Frag} {mg : Str → Option Value} {base : Heap} {f : Addr} {fd : FuncData} (F : Fun K "_law_cell_at" "_law_cell_at" s__law_cell_at f fd) (B : Bn mg) : FnOk P w K mg base CX0 1 f fd ["_law_script", "_law_k"] (spR K g_law_cell_at) := by
  refine fn_ro (T := t__law_cell_at) F sc__law_cell_at rfl (by decide) (fun ds kk h => ?_) (b__law_cell_at B) (fun ds kk h => ?_)
  · obtain ⟨ns, i, rfl, _⟩ := h
    rfl
  · obtain ⟨ns, i, rfl, h0, k⟩ := h
    obtain ⟨i, rfl⟩ := Int.eq_ofNat_of_zero_le h0
    simp only [w__law_cell_at, wSeq, wIf, env0, List.map_cons, List.map_nil, List.length_cons, List.length_nil, Nat.zero_add, Nat.reduceAdd, List.cons_append, List.nil_append, wRet, wLift, wBin, r_var, wNext, wC, r_bl, wCall, wCons, wNil, look, oget_s, r_ixK, r_lenK, r_cmp, r_blOf]
    split
    · rename_i h
      have h : (i : Int) < ((ns.map D.int).length : Int) := by simpa using h
      have hi : i < ns.length := by rw [List.length_map] at h; omega
      rw [atI_ofNat, List.getElem?_map, List.getElem?_eq_getElem hi]
      exact ⟨rfl, k _⟩
    · exact k 0
def g_law_take : GI := fun ds k => ∃ c n b, ds = [rowD c n, .int b] ∧ 0 < b ∧ b < 115792089237316195423570985008687907853269984665640564039457584007913129639936 ∧ 0 ≤ n ∧ n ≤ 1000000 ∧ ∀ c' r, 0 ≤ r → r < b → k (.int r) (rowD c' (n + 1))
abbrev s__law_take : Stmt := top 9
theorem sc__law_take : FnScope ["_law_row", "_law_base", "_law_rest", "_law_number_here"] ["_law_row", "_law_base"] (defScope s__law_take) := ⟨rfl, rfl, rfl, by decide +kernel, rfl, by decide +kernel, by decide +kernel⟩
def t__law_take : Tg := ⟨fun i => i == 0 || i == 2 || i == 3, [0]⟩
def w__law_take : WS := (wSeq (wSetIx 0 (wBin dAddT (wBin dIx (wVar 0) (wC (.int 1))) (wC (.int 1))) (wC (.int 1)))
  (wSeq (wIf (wBl (wBin (dCmp fun i j => decide (j < i)) (wBin dIx (wVar 0) (wC (.int 0))) (wBin dPow (wC (.int 10)) (wC (.int 18))))) (wSeq (wSet 2 (wBin dSub (wBin dIx (wVar 0) (wC (.int 0))) (wBin dPow (wC (.int 10)) (wC (.int 18)))))
  (wSeq (wSetIx 0 (wBin dAddT (wBin dPow (wC (.int 10)) (wC (.int 18))) (wBin dDivB (wVar 2) (wVar 1))) (wC (.int 0)))
  (wRet (wBin dMod (wVar 2) (wVar 1))))) wNext)
  (wSeq (wSet 3 (wBin dMod (wBin dAddT (wBin dAddT (wBin dMul (wBin dIx (wVar 0) (wC (.int 0))) (wC (.int 48271))) (wBin dMul (wBin dMul (wC (.int 7919)) (wBin dIx (wVar 0) (wC (.int 1)))) (wBin dIx (wVar 0) (wC (.int 1))))) (wC (.int 11))) (wC (.int 2147483629))))
  (wSeq (wSet 3 (wBin dMod (wBin dAddT (wBin dAddT (wBin dMul (wVar 3) (wVar 3)) (wBin dMul (wC (.int 69621)) (wBin dIx (wVar 0) (wC (.int 1))))) (wC (.int 7))) (wC (.int 2147483587))))
  (wRet (wBin dMod (wBin dDivB (wVar 3) (wC (.int 5))) (wVar 1)))))))
theorem b__law_take {P : Program} {w : World} {K : PySem.W.Frag} {mg : Str → Option Value} {base : Heap} {f : Addr} (B : Bn mg) : ∀ (cdv : Value) (A : Around) (outer : List PySem.Env) (s : Shared) (H : Hp) (E : XK), Room 0 (A.deeper (envOfC "_law_take" (defScope s__law_take) s.heap.objs.size f cdv)) → SVs (cxOf CX0 P w K mg base ["_law_row", "_law_base", "_law_rest", "_law_number_here"] "_law_take" (defScope s__law_take) f cdv A outer s H E).nox t__law_take (defBody s__law_take) w__law_take := fun cdv A outer s H E hr =>
    (svs_cons (sv_setIx (i := 0) (hu_of hr) (ev_op od_addT (ev_ix (xd_ix (hu_of hr)) (ev_var 0) ev_int) ev_int) ev_int)
    (svs_cons (sv_if (tv_cmp od_gt (ev_ix (xd_ix (hu_of hr)) (ev_var 0) ev_int) (ev_op od_pow ev_int ev_int)) (svs_cons (sv_set (i := 2) (ev_op od_sub (ev_ix (xd_ix (hu_of hr)) (ev_var 0) ev_int) (ev_op od_pow ev_int ev_int)) sc__law_take.nd)
    (svs_cons (sv_setIx (i := 0) (hu_of hr) (ev_op od_addT (ev_op od_pow ev_int ev_int) (ev_op od_divB (ev_var 2) (ev_var 1))) ev_int)
    (svs_one (sv_ret (ev_op od_mod (ev_var 2) (ev_var 1)))))) svs_nil)
    (svs_cons (sv_set (i := 3) (ev_op od_mod (ev_op od_addT (ev_op od_addT (ev_op od_mul (ev_ix (xd_ix (hu_of hr)) (ev_var 0) ev_int) ev_int) (ev_op od_mul (ev_op od_mul ev_int (ev_ix (xd_ix (hu_of hr)) (ev_var 0) ev_int)) (ev_ix (xd_ix (hu_of hr)) (ev_var 0) ev_int))) ev_int) ev_int) sc__law_take.nd)
    (svs_cons (sv_set (i := 3) (ev_op od_mod (ev_op od_addT (ev_op od_addT (ev_op od_mul (ev_var 3) (ev_var 3)) (ev_op od_mul ev_int (ev_ix (xd_ix (hu_of hr)) (ev_var 0) ev_int))) ev_int) ev_int) sc__law_take.nd)
    (svs_one (sv_ret (ev_op od_mod (ev_op od_divB (ev_var 3) ev_int) (ev_var 1))))))))
theorem ok__law_take {P : Program} {w : World} {K : PySem.W.Frag} {mg : Str → Option Value} {base : Heap} {f : Addr} {fd : FuncData} (F : Fun K "_law_take" "_law_take" s__law_take f fd) (B : Bn mg) : FnOk P w K mg base CX0 1 f fd ["_law_row", "_law_base"] (spI K 0 g_law_take) := by
  refine fn_io (T := t__law_take) F sc__law_take rfl rfl (fun ds kk h => ?_) (b__law_take B) (fun ds kk h => ?_)
  · obtain ⟨c, n, b, rfl, _⟩ := h
    exact ⟨rfl, _, rfl, rfl⟩
  · obtain ⟨c, n, b, rfl, hb, hb2, hn, hn2, k⟩ := h
    have hn1 : -18446744073709551616 < n + 1 := by omega
    have hn2' : n + 1 < 18446744073709551616 := by omega
    simp only [w__law_take, wSeq, wSetIx, wBin, env0, rowD, List.map_cons, List.map_nil, List.length_cons, List.length_nil, Nat.zero_add, Nat.reduceAdd, List.replicate, List.cons_append, List.nil_append, wC, wIf, wSet, wRet, r_var, Int.reduceLE, Int.reduceNeg, Int.reduceLT, r_powP, Int.reduceToNat, Int.reducePow, wNext, r_bl, look, Option.isSome_some, List.set_cons_zero, List.set_cons_succ, oget_s, true_and, r_setL, Nat.lt_add_one, ixN_1, List.length_set, Nat.zero_lt_succ, ixN_0, r_flL, r_ixL, atI_0, atI_1, List.getElem?_cons_zero, pureL, Bool.and_true, r_sub, hb, r_modP, hb2, r4_divB, r2_add, D.pure, Bool.true_and, List.getElem?_cons_succ, r_mulB, r_cmp, r_blOf, r_mulA, hn1, hn2']
    split
    · exact k _ _ (Int.emod_nonneg _ (by omega)) (Int.emod_lt_of_pos _ hb)
    · have hx : -18446744073709551616 < (c * 48271 + 7919 * (n + 1) * (n + 1) + 11) % 2147483629 ∧ (c * 48271 + 7919 * (n + 1) * (n + 1) + 11) % 2147483629 < 18446744073709551616 := by omega
      generalize (c * 48271 + 7919 * (n + 1) * (n + 1) + 11) % 2147483629 = x at hx
      simp only [Int.reduceNeg, hx.1, hx.2, r_mulA, r2_add, Int.reduceLT, r_modP, r4_divB, hb]
      exact k _ _ (Int.emod_nonneg _ (by omega)) (Int.emod_lt_of_pos _ hb)
def g_law_number : GI := fun ds k => ∃ c n m, ds = [rowD c n, .int m] ∧ 4 ≤ m ∧ 0 ≤ n ∧ n ≤ 999000 ∧ ∀ c' n' x, n ≤ n' → n' ≤ n + 20 → -m ≤ x → x ≤ m → k (.int x) (rowD c' n')
abbrev s__law_number : Stmt := top 10
theorem sc__law_number : FnScope ["_law_row", "_law_most", "_law_number_here", "_law_part"] ["_law_row", "_law_most"] (defScope s__law_number) := ⟨rfl, rfl, rfl, by decide +kernel, rfl, by decide +kernel, by decide +kernel⟩
def t__law_number : Tg := ⟨fun i => i == 0 || i == 2 || i == 3, [0]⟩
def w__law_number : WS := (wSeq (wIf (wBl (wBin (dCmp fun i j => decide (j < i)) (wCallI 0 g_law_take (wHere 0 (wCons (wC (.int 3)) wNil))) (wC (.int 0)))) (wRet (wBin dSub (wCallI 0 g_law_take (wHere 0 (wCons (wC (.int 9)) wNil))) (wC (.int 4)))) wNext)
  (wSeq (wSet 2 (wC (.int 0)))
  (wSeq (wFor (wRng1 (wCons (wC (.int 7)) wNil)) (gN 3) (wSet 2 (wBin dAddT (wBin dMul (wVar 2) (wBin dPow (wC (.int 10)) (wC (.int 9)))) (wCallI 0 g_law_take (wHere 0 (wCons (wBin dPow (wC (.int 10)) (wC (.int 9))) wNil))))))
  (wSeq (wSet 2 (wBin dDivB (wBin dMod (wVar 2) (wBin dAddT (wVar 1) (wC (.int 1)))) (wBin dIx (wLst (wCons (wC (.int 1)) (wCons (wBin dPow (wC (.int 10)) (wC (.int 9))) (wCons (wBin dPow (wC (.int 10)) (wC (.int 30))) wNil)))) (wCallI 0 g_law_take (wHere 0 (wCons (wC (.int 3)) wNil))))))
  (wRet (wBin dIx (wLst (wCons (wLift (wVar 2)) (wCons (wBin dSub (wC (.int 0)) (wVar 2)) wNil))) (wCallI 0 g_law_take (wHere 0 (wCons (wC (.int 2)) wNil)))))))))
theorem b__law_number {P : Program} {w : World} {K : PySem.W.Frag} {mg : Str → Option Value} {base : Heap} {f : Addr} (B : Bn mg) (C__law_take : Cal P w K mg base "_law_take" 1 ["_law_row", "_law_base"] (spI K 0 g_law_take)) : ∀ (cdv : Value) (A : Around) (outer : List PySem.Env) (s : Shared) (H : Hp) (E : XK), Room 1 (A.deeper (envOfC "_law_number" (defScope s__law_number) s.heap.objs.size f cdv)) → SVs (cxOf CX0 P w K mg base ["_law_row", "_law_most", "_law_number_here", "_law_part"] "_law_number" (defScope s__law_number) f cdv A outer s H E).nox t__law_number (defBody s__law_number) w__law_number := fun cdv A outer s H E hr =>
    (svs_cons (sv_if (tv_cmp od_gt (ev_callIC C__law_take (hr.mono (by decide)) (ai_here (i := 0) (av_cons ev_int av_nil))) ev_int) (svs_one (sv_ret (ev_op od_sub (ev_callIC C__law_take (hr.mono (by decide)) (ai_here (i := 0) (av_cons ev_int av_nil))) ev_int))) svs_nil)
    (svs_cons (sv_set (i := 2) ev_int sc__law_number.nd)
    (svs_cons (sv_for PassesOwn.never (iv_range1 B.nb_range (av_cons ev_int av_nil)) (gv_name (i := 3) sc__law_number.nd) (svs_one (sv_set (i := 2) (ev_op od_addT (ev_op od_mul (ev_var 2) (ev_op od_pow ev_int ev_int)) (ev_callIC C__law_take (hr.mono (by decide)) (ai_here (i := 0) (av_cons (ev_op od_pow ev_int ev_int) av_nil)))) sc__law_number.nd)))
    (svs_cons (sv_set (i := 2) (ev_op od_divB (ev_op od_mod (ev_var 2) (ev_op od_addT (ev_var 1) ev_int)) (ev_ix (xd_ix (hu_of hr)) (ev_lst (av_cons ev_int (av_cons (ev_op od_pow ev_int ev_int) (av_cons (ev_op od_pow ev_int ev_int) av_nil)))) (ev_callIC C__law_take (hr.mono (by decide)) (ai_here (i := 0) (av_cons ev_int av_nil))))) sc__law_number.nd)
    (svs_one (sv_ret (ev_ix (xd_ix (hu_of hr)) (ev_lst (av_cons (ev_lift (ev_var 2)) (av_cons (ev_op od_sub ev_int (ev_var 2)) av_nil))) (ev_callIC C__law_take (hr.mono (by decide)) (ai_here (i := 0) (av_cons ev_int av_nil))))))))))
theorem ok__law_number {P : Program} {w : World} {K : PySem.W.Frag} {mg : Str → Option Value} {base : Heap} {f : Addr} {fd : FuncData} (F : Fun K "_law_number" "_law_number" s__law_number f fd) (B : Bn mg) (C1 : Cal P w K mg base "_law_take" 1 ["_law_row", "_law_base"] (spI K 0 g_law_take)) : FnOk P w K mg base CX0 2 f fd ["_law_row", "_law_most"] (spI K 0 g_law_number) := by
  refine fn_io (T := t__law_number) F sc__law_number rfl rfl (fun ds kk h => ?_) (b__law_number B C1) (fun ds kk h => ?_)
  · obtain ⟨c, n, m, rfl, _⟩ := h
    exact ⟨rfl, _, rfl, rfl⟩
  · obtain ⟨c, n, m, rfl, hm, hn, hn2, k⟩ := h
    simp only [w__law_number, wSeq, wIf, env0, rowD, List.map_cons, List.map_nil, List.length_cons, List.length_nil, Nat.zero_add, Nat.reduceAdd, List.replicate, List.cons_append, List.nil_append, wRet, wBin, wCallI, wHere, wCons, wC, wNil, pureL, D.pure, Bool.and_self, true_and, wNext, wSet, r_for, r_rng1, r_rng1I, Int.reducePow, Int.reduceNeg, Int.reduceLE, Int.reduceLT, Int.reduceToNat, r_bl, look, Option.isSome_some, List.set_cons_zero, oget_s, List.set_cons_succ, r_flL]
    refine ⟨c, n, 3, rfl, by decide, by decide, hn, by omega, fun c1 r1 a1 b1 => ?_⟩
    simp only [rowD, r_flL, pureL, D.pure, Bool.and_self, true_and, r_cmp, r_blOf]
    split
    · refine ⟨c1, n + 1, 9, rfl, by decide, by decide, by omega, by omega, fun c2 r2 a2 b2 => ?_⟩
      simp only [rowD, r_flL, pureL, D.pure, Bool.and_self, true_and, r_sub]
      exact k _ _ _ (by omega) (by omega) (by omega) (by omega)
    · refine ⟨pure_rngD, fun t ρ => ∃ (c' x : Int) (o3 : Option D), t ≤ 7 ∧ ρ = [some (.lst [.int c', .int (n + 1 + (t : Int))]), some (.int m), some (.int x), o3], ⟨c1, 0, none, by omega, by simp⟩, ?_, ?_⟩
      · rintro t d ρ hd ⟨c', x, o3, ht, rfl⟩
        obtain ⟨htl, rfl⟩ := rngD_get hd
        have ht7 : t < 7 := by simpa using htl
        simp only [gN, wSet, wBin, List.set_cons_succ, List.set_cons_zero, wC, wCallI, wHere, wCons, wNil, pureL, Bool.and_true, List.nil_append, Int.reduceLE, Int.reduceNeg, Int.reduceLT, r_powP, D.pure, Int.reduceToNat, Int.reducePow, true_and, r_var, look, Option.isSome_some, oget_s, r_flL, Bool.and_self, r_mulB]
        refine ⟨c', n + 1 + (t : Int), _, rfl, by decide, by decide, by omega, by omega, fun c2 r2 a2 b2 => ?_⟩
        simp only [rowD, r2_add]
        exact ⟨c2, _, _, by omega, by rw [show n + 1 + (t : Int) + 1 = n + 1 + ((t + 1 : Nat) : Int) by omega]⟩
      · rintro ρ ⟨c', x, o3, ht, rfl⟩
        rw [rngD_length]
        have hm1 : 0 < m + 1 := by omega
        simp only [wSeq, wSet, wBin, wC, wLst, wCons, wNil, List.length_cons, List.length_nil, Nat.zero_add, Nat.reduceAdd, wCallI, wHere, pureL, D.pure, Bool.and_self, List.nil_append, wRet, wLift, true_and, r_var, Int.reduceLE, Int.reduceNeg, Int.reduceLT, r_powP, Int.reduceToNat, Int.reducePow, look, Option.isSome_some, List.set_cons_zero, List.set_cons_succ, oget_s, r_flL, r2_add, hm1, r_modP]
        refine ⟨by decide, c', n + 1 + 7, 3, by rfl, by decide, by decide, by omega, by omega, fun c2 r2 a2 b2 => ?_⟩
        obtain ⟨q, hat, hq0, hq1⟩ : ∃ q, L2.atI [D.int 1, D.int 1000000000, D.int 1000000000000000000000000000000] r2 = some (.int q) ∧ 0 < q ∧ q < 115792089237316195423570985008687907853269984665640564039457584007913129639936 := by
          rcases pick3 (a := D.int 1) (b := .int 1000000000) (c := .int 1000000000000000000000000000000) a2 b2 with e | e | e
          · exact ⟨_, e, by decide, by decide⟩
          · exact ⟨_, e, by decide, by decide⟩
          · exact ⟨_, e, by decide, by decide⟩
        simp only [rowD, r_flL, pureL, D.pure, Bool.and_self, true_and, r_ixL, hat, oget_s, hq0, hq1, r4_divB, r_sub]
        refine ⟨by decide, c2, _, 2, rfl, by decide, by decide, by omega, by omega, fun c3 r3 a3 b3 => ?_⟩
        simp only [rowD, r_flL, pureL, D.pure, Bool.and_self, true_and, r_ixL]
        have y0 : 0 ≤ x % (m + 1) := Int.emod_nonneg _ (by omega)
        have y1 : x % (m + 1) < m + 1 := Int.emod_lt_of_pos _ hm1
        have z0 : 0 ≤ x % (m + 1) / q := Int.ediv_nonneg y0 (by omega)
        have z1 : x % (m + 1) / q ≤ x % (m + 1) := Int.ediv_le_self _ y0
        rcases pick2 (a := D.int (x % (m + 1) / q)) (b := D.int (0 - x % (m + 1) / q)) a3 b3 with ⟨_, e⟩ | ⟨_, e⟩ <;> (rw [e]; simp only [wSeq, wSet, wSetIx, wIf, r_for, r_forR, wRet, wRetS, wDrop, wNext, wAsg, wBin, wUn, r_var, wC, wLift, wCall, wCallI, wHere, wSkip, wCons, wNil, wTup, wLst, wMt, wSl, r_some, wNone, r_bl, r_blOf, r_tru, r_truB, r_truI, r_truL, r_truT, wNot, wAnd, wOr, wIfE, r_andV, r_orV, r_notV, r_rng1, r_rng1I, r_rng2, r_rng2I, r_enum, r_enumT, r_vals, r_valsK, r_seq, r_seqT, r_seqL, r_kls, r_klsK, r_intOf, r_comp, gN, r_gTup, r_gCons, r_gNil, r_add, r_addS, r_addT, r_addL, r_sub, r_mulA, r_mulB, r_mulL, r_divP, r_modP, r_powP, r_neg, r_eqI, r_neI, r_eqB, r_neB, r_eqS, r_neS, r_eqT, r_neT, r_eqL, r_neL, r_cmp, r_ixL, r_ixT, r_ixK, r_ixDi, r_ixDs, r_ixDt, r_lenL, r_lenT, r_lenK, r_lenD, r_int, r_intB, r_abs, r_min, r_max, r_listL, r_listT, r_listK, r_tupL, r_tupT, r_range, r_isi, isiD, r_slL, r_slK, r_slT, r_setL, r_setDi, r_setDs, r_setDt, r_inDi, r_inDs, r_inDt, r_inS, r_app, r_popAt, r_pop, r_clear, r_tyL, r_tyD, r_tyT, r_flL, r_flD, r_flT, oget_s, look, List.set_cons_zero, List.set_cons_succ, D.pure, pureL, wAll, atI_0, atI_1, atI_2, atI_3, ixN_0, ixN_1, ixN_2, ixN_3, seqIx_0, List.getElem?_cons_zero, List.getElem?_cons_succ, List.length_cons, List.length_nil, List.length_set, Nat.zero_add, Nat.reduceAdd, Nat.reduceLT, Nat.lt_add_one, Nat.zero_lt_succ, Bool.and_true, Bool.true_and, Bool.and_self, true_and, and_true, Option.isSome_some, BEq.rfl, keysOf, Option.map_some, Option.map_none, reduceIte, Bool.false_eq_true, Bool.not_true, Bool.not_false, Int.reduceToNat, Int.reduceLT, Int.reduceLE, Int.reduceNeg, Int.reducePow, Int.reduceAdd, Int.reduceSub, Int.reduceMul, List.eraseIdx_cons_zero, Int.toNat_natCast, List.nil_append, List.cons_append, wSlT, r2_add, r2_addS, r2_addT, r2_addL, r2_slL, r2_slK, r2_slT, r2_list, r2_ixFi, r2_eqDD, r2_eqDF, r2_noD, r2_get, r2_clear, r2_dik, r2_lst, r2_keyI, r2_keys, r2_keysD, r2_zip, r2_zipD, r2_sub, wGetL, wGet2, wSetO, wDka, wKeysS, Option.bind_some, kD, wCount, r3_cnt, r3_ft, r3_sum, r3_tupF, r3_sortD, wDisp1, wMove, wCompW, wCallJ, wHereJ, wSkipJ, r4_divB, r4_all, r4_zipT, r4_two, wZipT, wComp2, wLstF, wBinV]; exact k _ _ _ (by omega) (by omega) (by omega) (by omega))
def bgN : Nat := 1000000000000000000000000000000000000000000000000000000000000
structure PI (M : Nat) (i : Nat) (x : Int) (ts : T) : Prop where
  is : Is ts
  lt : ∀ t ∈ ts, t.1 < x
  few : ts.length ≤ i
  im : i ≤ M
  nm : nrm ts ≤ i * bgN
theorem PI.start {M : Nat} {x : Int} : PI M 0 x [] := ⟨is_nil, by simp, by simp, by omega, by simp [nrm]⟩
theorem PI.skip {M i : Nat} {x q : Int} {ts : T} (h : PI M i x ts) (hi : i < M) (h0 : 0 ≤ q) : PI M (i + 1) (x + 1 + q) ts := by
  obtain ⟨a, b, c, d, e⟩ := h
  exact ⟨a, fun t ht => by have := b t ht; omega, by omega, by omega, Nat.le_trans e (Nat.mul_le_mul_right _ (by omega))⟩
theorem PI.more {M i : Nat} {x y q : Int} {ts : T} (h : PI M i x ts) (hi : i < M) (hy : y ≠ 0) (hy1 : y.natAbs ≤ bgN) (h0 : 0 ≤ q) : PI M (i + 1) (x + 1 + q) (ts ++ [(x, y)]) := by
  obtain ⟨a, b, c, d, e⟩ := h
  refine ⟨⟨?_, fun t ht => ?_⟩, fun t ht => ?_, by simp; omega, by omega, ?_⟩
  · rw [List.pairwise_append]
    exact ⟨a.asc, List.pairwise_singleton _ _, fun u hu v hv => by rw [List.mem_singleton.mp hv]; exact b u hu⟩
  · rcases List.mem_append.mp ht with ht | ht
    · exact a.nz t ht
    · rw [List.mem_singleton.mp ht]; exact hy
  · rcases List.mem_append.mp ht with ht | ht
    · have := b t ht; omega
    · rw [List.mem_singleton.mp ht]; show x < _; omega
  · rw [nrm_append]
    show nrm ts + (y.natAbs + 0) ≤ _
    rw [Nat.add_mul]
    omega
def g_law_polynomial : GI := fun ds k => ∃ c n m t, ds = [rowD c n, .int m, .int t] ∧ 4000 ≤ m ∧ m < 1000000000000000000000000000000000000000000000000000000000000 ∧ 0 ≤ t ∧ t ≤ 8 ∧ 0 ≤ n ∧ n ≤ 900000 ∧ ∀ (c' n' : Int) (ts : List (Int × Int)), n ≤ n' → n' ≤ n + 10000 → Is ts → ts.length ≤ 8 → nrm ts ≤ 8 * bgN → k (.tup (ts.map pr2)) (rowD c' n')
abbrev s__law_polynomial : Stmt := top 11
theorem sc__law_polynomial : FnScope ["_law_row", "_law_most", "_law_terms", "_law_found", "_law_power", "_law_k", "_law_number_here"] ["_law_row", "_law_most", "_law_terms"] (defScope s__law_polynomial) := ⟨rfl, rfl, rfl, by decide +kernel, rfl, by decide +kernel, by decide +kernel⟩
def t__law_polynomial : Tg := ⟨fun i => i == 0 || i == 3 || i == 4 || i == 5 || i == 6, [0]⟩
def w__law_polynomial : WS := (wSeq (wSet 3 (wLst wNil))
  (wSeq (wSet 4 (wCallI 0 g_law_number (wHere 0 (wCons (wBin dDivB (wVar 1) (wC (.int 1000))) wNil))))
  (wSeq (wFor (wRng1 (wCons (wCallI 0 g_law_take (wHere 0 (wCons (wBin dAddT (wVar 2) (wC (.int 1))) wNil))) wNil)) (gN 5) (wSeq (wSet 6 (wCallI 0 g_law_number (wHere 0 (wCons (wVar 1) wNil))))
  (wSeq (wIf (wBl (wBin dNe (wVar 6) (wC (.int 0)))) (wDrop (wMt 3 "list" gAppend (wCons (wLift (wTup (wCons (wVar 4) (wCons (wVar 6) wNil)))) wNil))) wNext)
  (wSet 4 (wBin dAddT (wBin dAddT (wVar 4) (wC (.int 1))) (wBin dIx (wLst (wCons (wC (.int 0)) (wCons (wC (.int 1)) (wCons (wCallI 0 g_law_take (wHere 0 (wCons (wC (.int 4)) wNil))) (wCons (wCallI 0 g_law_take (wHere 0 (wCons (wBin dAddT (wC (.int 1)) (wBin dDivB (wVar 1) (wC (.int 1000)))) wNil))) wNil))))) (wCallI 0 g_law_take (wHere 0 (wCons (wC (.int 4)) wNil)))))))))
  (wRet (wCall dTuple (wCons (wVar 3) wNil))))))
theorem b__law_polynomial {P : Program} {w : World} {K : PySem.W.Frag} {mg : Str → Option Value} {base : Heap} {f : Addr} (B : Bn mg) (C__law_take : Cal P w K mg base "_law_take" 1 ["_law_row", "_law_base"] (spI K 0 g_law_take)) (C__law_number : Cal P w K mg base "_law_number" 2 ["_law_row", "_law_most"] (spI K 0 g_law_number)) : ∀ (cdv : Value) (A : Around) (outer : List PySem.Env) (s : Shared) (H : Hp) (E : XK), Room 2 (A.deeper (envOfC "_law_polynomial" (defScope s__law_polynomial) s.heap.objs.size f cdv)) → SVs (cxOf CX0 P w K mg base ["_law_row", "_law_most", "_law_terms", "_law_found", "_law_power", "_law_k", "_law_number_here"] "_law_polynomial" (defScope s__law_polynomial) f cdv A outer s H E).nox t__law_polynomial (defBody s__law_polynomial) w__law_polynomial := fun cdv A outer s H E hr =>
    (svs_cons (sv_set (i := 3) (ev_lst av_nil) sc__law_polynomial.nd)
    (svs_cons (sv_set (i := 4) (ev_callIC C__law_number (hr.mono (by decide)) (ai_here (i := 0) (av_cons (ev_op od_divB (ev_var 1) ev_int) av_nil))) sc__law_polynomial.nd)
    (svs_cons (sv_for PassesOwn.never (iv_range1 B.nb_range (av_cons (ev_callIC C__law_take (hr.mono (by decide)) (ai_here (i := 0) (av_cons (ev_op od_addT (ev_var 2) ev_int) av_nil))) av_nil)) (gv_name (i := 5) sc__law_polynomial.nd) (svs_cons (sv_set (i := 6) (ev_callIC C__law_number (hr.mono (by decide)) (ai_here (i := 0) (av_cons (ev_var 1) av_nil))) sc__law_polynomial.nd)
    (svs_cons (sv_if (tv_cmp (od_ne hr.units) (ev_var 6) ev_int) (svs_one (sv_expr (ev_mt (i := 3) md_append PySem.F.plainAttrs_list PySem.F.slot_list_append PySem.F.type_list_append (av_cons (ev_lift (ev_tup (av_cons (ev_var 4) (av_cons (ev_var 6) av_nil)))) av_nil)))) svs_nil)
    (svs_one (sv_set (i := 4) (ev_op od_addT (ev_op od_addT (ev_var 4) ev_int) (ev_ix (xd_ix (hu_of hr)) (ev_lst (av_cons ev_int (av_cons ev_int (av_cons (ev_callIC C__law_take (hr.mono (by decide)) (ai_here (i := 0) (av_cons ev_int av_nil))) (av_cons (ev_callIC C__law_take (hr.mono (by decide)) (ai_here (i := 0) (av_cons (ev_op od_addT ev_int (ev_op od_divB (ev_var 1) ev_int)) av_nil))) av_nil))))) (ev_callIC C__law_take (hr.mono (by decide)) (ai_here (i := 0) (av_cons ev_int av_nil))))) sc__law_polynomial.nd)))))
    (svs_one (sv_ret (ev_callTy cd_tuple B.nb_tuple bt_tuple (av_cons (ev_var 3) av_nil)))))))
theorem ok__law_polynomial {P : Program} {w : World} {K : PySem.W.Frag} {mg : Str → Option Value} {base : Heap} {f : Addr} {fd : FuncData} (F : Fun K "_law_polynomial" "_law_polynomial" s__law_polynomial f fd) (B : Bn mg) (C1 : Cal P w K mg base "_law_take" 1 ["_law_row", "_law_base"] (spI K 0 g_law_take)) (C2 : Cal P w K mg base "_law_number" 2 ["_law_row", "_law_most"] (spI K 0 g_law_number)) :
    FnOk P w K mg base CX0 3 f fd ["_law_row", "_law_most", "_law_terms"] (spI K 0 g_law_polynomial) := by
  refine fn_io (T := t__law_polynomial) F sc__law_polynomial rfl rfl (fun ds kk h => ?_) (b__law_polynomial B C1 C2) (fun ds kk h => ?_)
  · obtain ⟨c, n, m, t, rfl, _⟩ := h
    exact ⟨rfl, _, rfl, rfl⟩
  · obtain ⟨c, n, m, t, rfl, hm, hm2, ht0, ht, hn, hn2, k⟩ := h
    have hm2' : m < 1000000000000000000000000000000000000000000000000000000000000 := hm2
    have hq : 4 ≤ m / 1000 ∧ m / 1000 < 1000000000000000000000000000000000000000000000000000000000 := by omega
    simp only [w__law_polynomial, wSeq, wSet, wLst, wNil, List.length_nil, wCallI, wHere, env0, rowD, List.map_cons, List.map_nil, List.length_cons, Nat.zero_add, Nat.reduceAdd, List.replicate, List.cons_append, List.nil_append, List.set_cons_succ, List.set_cons_zero, look, Option.isSome_some, wCons, wBin, wC, pureL, Bool.and_true, r_for, r_rng1, r_var, oget_s, r2_add, D.pure, true_and, r_flL, Bool.and_self, Int.reduceLT, r4_divB]
    refine ⟨by decide, c, n, m / 1000, rfl, hq.1, hn, by omega, fun c1 n1 x1 a1 b1 e1 f1 => ?_⟩
    simp only [rowD, r_flL, pureL, D.pure, Bool.and_self, true_and]
    refine ⟨c1, n1, t + 1, rfl, by omega, by omega, by omega, by omega, fun c2 r2 a2 b2 => ?_⟩
    simp only [rowD, r_rng1I, Int.reducePow, Int.reduceNeg]
    refine ⟨by omega, by omega, pure_rngD, fun i ρ => ∃ (c' n' x : Int) (ts : List (Int × Int)) (o5 o6 : Option D), PI r2.toNat i x ts ∧ n ≤ n' ∧ n' ≤ n + 30 + 30 * (i : Int) ∧ ρ = [some (.lst [.int c', .int n']), some (.int m), some (.int t), some (.lst (ts.map pr2)), some (.int x), o5, o6], ⟨c2, n1 + 1, x1, [], none, none, PI.start, by omega, by omega, rfl⟩, ?_, ?_⟩
    · rintro i d ρ hd ⟨c', n', x, ts, o5, o6, hP, h1, h2, rfl⟩
      obtain ⟨hil, rfl⟩ := rngD_get hd
      have rest : ∀ (c4 n4 : Int) (us : List (Int × Int)) (z : Int) (o5 o6 : Option D), n ≤ n4 → n4 ≤ n' + 20 → (∀ q, 0 ≤ q → q < 1000000000000000000000000000000000000000000000000000000000 → PI r2.toNat (i + 1) (z + q) us) →
          g_law_take [D.lst [D.int c4, D.int n4], D.int 4] fun d d' => flatD d' = true ∧ g_law_take [d', D.int (1 + m / 1000)] fun d_1 d' => 4 ≤ sizeLine ∧ flatD d' = true ∧ g_law_take [d', D.int 4] fun d_2 d' =>
            dIx (D.lst [D.int 0, D.int 1, d, d_1]) d_2 fun d => dAddT (D.int z) d fun d => ∃ (c' n' x : Int) (ts : List (Int × Int)) (o5_1 o6_1 : Option D), PI r2.toNat (i + 1) x ts ∧ n ≤ n' ∧ n' ≤ n + 30 + 30 * ((i + 1 : Nat) : Int) ∧
              [some d', some (D.int m), some (D.int t), some (D.lst (us.map pr2)), some d, o5, o6] = [some (.lst [.int c', .int n']), some (.int m), some (.int t), some (.lst (ts.map pr2)), some (.int x), o5_1, o6_1] := by
        intro c4 n4 us z o5 o6 k1 k2 k3
        refine ⟨c4, n4, 4, rfl, by decide, by decide, by omega, by have := hP.im; omega, fun c5 r5 a5 b5 => ⟨rfl, c5, n4 + 1, 1 + m / 1000, rfl, by omega, by omega, by omega, by have := hP.im; omega, fun c6 r6 a6 b6 => ⟨by decide, rfl, c6, n4 + 1 + 1, 4, rfl, by decide, by decide, by omega, by have := hP.im; omega, fun c7 r7 a7 b7 => ?_⟩⟩⟩
        obtain ⟨q, hat, q0, q1⟩ : ∃ q, L2.atI [D.int 0, D.int 1, D.int r5, D.int r6] r7 = some (.int q) ∧ 0 ≤ q ∧ q < 1000000000000000000000000000000000000000000000000000000000 := by
          rcases pick4 (a := D.int 0) (b := D.int 1) (c := D.int r5) (d := D.int r6) a7 b7 with e | e | e | e
          · exact ⟨_, e, by decide, by decide⟩
          · exact ⟨_, e, by decide, by decide⟩
          · exact ⟨_, e, a5, by omega⟩
          · exact ⟨_, e, a6, by omega⟩
        simp only [rowD, r_ixL, hat, oget_s, r2_add]
        exact ⟨c7, n4 + 1 + 1 + 1, z + q, us, o5, o6, k3 q q0 q1, by omega, by omega, rfl⟩
      simp only [gN, wSeq, wSet, wCallI, wHere, List.set_cons_succ, List.set_cons_zero, look, Option.isSome_some, wCons, wNil, pureL, Bool.and_true, List.nil_append, wIf, wDrop, wMt, wLift, wTup, List.length_cons, List.length_nil, Nat.zero_add, Nat.reduceAdd, D.pure, wBin, wC, wLst, Bool.and_self, true_and, r_var, wNext, r_bl, r_tyL, BEq.rfl, oget_s, Int.reduceLT, r4_divB, r2_add, r_app, Bool.true_and, r_flL]
      refine ⟨c', n', m, rfl, by omega, by omega, by have := hP.im; omega, fun c3 n3 x3 a3 b3 e3 f3 => ?_⟩
      simp only [D.pure, rowD, r_flL, pureL, Bool.and_self, true_and, r_neI, r_blOf]
      split
      · rename_i hne
        have hx3 : x3 ≠ 0 := by simpa using hne
        have hb3 : x3.natAbs ≤ bgN := by unfold bgN; omega
        have hf := hP.few
        have him := hP.im
        rw [List.length_map]
        refine ⟨by decide, small (by omega), ?_⟩
        have e : ts.map pr2 ++ [D.tup [D.int x, D.int x3]] = (ts ++ [(x, x3)]).map pr2 := by rw [List.map_append]; rfl
        rw [e]
        exact rest c3 n3 (ts ++ [(x, x3)]) (x + 1) _ _ (by omega) (by omega) fun q q0 q1 => hP.more (by omega) hx3 hb3 q0
      · exact rest c3 n3 ts (x + 1) _ _ (by omega) (by omega) fun q q0 q1 => hP.skip (by omega) q0
    · rintro ρ ⟨c', n', x, ts, o5, o6, hP, h1, h2, rfl⟩
      simp only [wRet, wCall, wCons, wNil, r_var, look, oget_s, r_flL, pureL, D.pure, Bool.and_self, true_and, r_tupL, pure_two]
      rw [rngD_length] at h2
      have hf := hP.few
      have him := hP.im
      have hnm := hP.nm
      exact k _ _ ts h1 (by omega) hP.is (by omega) (Nat.le_trans hnm (Nat.mul_le_mul_right _ (by rw [rngD_length] at him ⊢; omega)))
end K22
set_option Elab.async false
set_option linter.all false
set_option maxRecDepth 100000
set_option maxHeartbeats 4000000
set_option exponentiation.threshold 3000
namespace K22
open PySem PySem.Spec L2 PV
open PyProof.Rows (envOfC)
open Pol Dct
def g_law_long : GI := fun ds k => ∃ c n, ds = [rowD c n, .int 24, .int 160] ∧ 0 ≤ n ∧ n ≤ 900000 ∧ ∀ (c' n' : Int) (ts : T), n ≤ n' → n' ≤ n + 10000 → Is ts → ts.length ≤ 160 → nrm ts ≤ 160 * bgN → k (.tup (ts.map pr2)) (rowD c' n')
abbrev s__law_long : Stmt := top 12
theorem sc__law_long : FnScope ["_law_row", "_law_fewest", "_law_most", "_law_power", "_law_found", "_law_k"] ["_law_row", "_law_fewest", "_law_most"] (defScope s__law_long) := ⟨rfl, rfl, rfl, by decide +kernel, rfl, by decide +kernel, by decide +kernel⟩
def t__law_long : Tg := ⟨fun i => i == 0 || i == 3 || i == 4 || i == 5, [0]⟩
def w__law_long : WS := (wSeq (wSet 3 (wCallI 0 g_law_number (wHere 0 (wCons (wBin dPow (wC (.int 10)) (wC (.int 9))) wNil))))
  (wSeq (wSet 4 (wLst wNil))
  (wSeq (wFor (wRng1 (wCons (wBin dAddT (wLift (wVar 1)) (wCallI 0 g_law_take (wHere 0 (wCons (wBin dAddT (wBin dSub (wVar 2) (wVar 1)) (wC (.int 1))) wNil)))) wNil)) (gN 5) (wSeq (wDrop (wMt 4 "list" gAppend (wCons (wTup (wCons (wLift (wVar 3)) (wCons (wBin dMul (wBin dIx (wLst (wCons (wC (.int 1)) (wCons (wUn dNeg (wC (.int 1))) wNil))) (wCallI 0 g_law_take (wHere 0 (wCons (wC (.int 2)) wNil)))) (wBin dAddT (wC (.int 1)) (wCallI 0 g_law_take (wHere 0 (wCons (wC (.int 9)) wNil))))) wNil))) wNil)))
  (wSet 3 (wBin dAddT (wBin dAddT (wVar 3) (wC (.int 1))) (wCallI 0 g_law_take (wHere 0 (wCons (wC (.int 3)) wNil)))))))
  (wRet (wCall dTuple (wCons (wVar 4) wNil))))))
theorem b__law_long {P : Program} {w : World} {K : PySem.W.Frag} {mg : Str → Option Value} {base : Heap} {f : Addr} (B : Bn mg) (C__law_take : Cal P w K mg base "_law_take" 1 ["_law_row", "_law_base"] (spI K 0 g_law_take)) (C__law_number : Cal P w K mg base "_law_number" 2 ["_law_row", "_law_most"] (spI K 0 g_law_number)) : ∀ (cdv : Value) (A : Around) (outer : List PySem.Env) (s : Shared) (H : Hp) (E : XK), Room 2 (A.deeper (envOfC "_law_long" (defScope s__law_long) s.heap.objs.size f cdv)) → SVs (cxOf CX0 P w K mg base ["_law_row", "_law_fewest", "_law_most", "_law_power", "_law_found", "_law_k"] "_law_long" (defScope s__law_long) f cdv A outer s H E).nox t__law_long (defBody s__law_long) w__law_long := fun cdv A outer s H E hr =>
    (svs_cons (sv_set (i := 3) (ev_callIC C__law_number (hr.mono (by decide)) (ai_here (i := 0) (av_cons (ev_op od_pow ev_int ev_int) av_nil))) sc__law_long.nd)
    (svs_cons (sv_set (i := 4) (ev_lst av_nil) sc__law_long.nd)
    (svs_cons (sv_for PassesOwn.never (iv_range1 B.nb_range (av_cons (ev_op od_addT (ev_lift (ev_var 1)) (ev_callIC C__law_take (hr.mono (by decide)) (ai_here (i := 0) (av_cons (ev_op od_addT (ev_op od_sub (ev_var 2) (ev_var 1)) ev_int) av_nil)))) av_nil)) (gv_name (i := 5) sc__law_long.nd) (svs_cons (sv_expr (ev_mt (i := 4) md_append PySem.F.plainAttrs_list PySem.F.slot_list_append PySem.F.type_list_append (av_cons (ev_tup (av_cons (ev_lift (ev_var 3)) (av_cons (ev_op od_mul (ev_ix (xd_ix (hu_of hr)) (ev_lst (av_cons ev_int (av_cons (ev_un ud_neg ev_int) av_nil))) (ev_callIC C__law_take (hr.mono (by decide)) (ai_here (i := 0) (av_cons ev_int av_nil)))) (ev_op od_addT ev_int (ev_callIC C__law_take (hr.mono (by decide)) (ai_here (i := 0) (av_cons ev_int av_nil))))) av_nil))) av_nil)))
    (svs_one (sv_set (i := 3) (ev_op od_addT (ev_op od_addT (ev_var 3) ev_int) (ev_callIC C__law_take (hr.mono (by decide)) (ai_here (i := 0) (av_cons ev_int av_nil)))) sc__law_long.nd))))
    (svs_one (sv_ret (ev_callTy cd_tuple B.nb_tuple bt_tuple (av_cons (ev_var 4) av_nil)))))))
theorem ok__law_long {P : Program} {w : World} {K : PySem.W.Frag} {mg : Str → Option Value} {base : Heap} {f : Addr} {fd : FuncData} (F : Fun K "_law_long" "_law_long" s__law_long f fd) (B : Bn mg) (C1 : Cal P w K mg base "_law_take" 1 ["_law_row", "_law_base"] (spI K 0 g_law_take)) (C2 : Cal P w K mg base "_law_number" 2 ["_law_row", "_law_most"] (spI K 0 g_law_number)) :
    FnOk P w K mg base CX0 3 f fd ["_law_row", "_law_fewest", "_law_most"] (spI K 0 g_law_long) := by
  refine fn_io (T := t__law_long) F sc__law_long rfl rfl (fun ds kk h => ?_) (b__law_long B C1 C2) (fun ds kk h => ?_)
  · obtain ⟨c, n, rfl, _⟩ := h
    exact ⟨rfl, _, rfl, rfl⟩
  · obtain ⟨c, n, rfl, hn, hn2, k⟩ := h
    simp only [w__law_long, wSeq, wSet, wCallI, wHere, env0, rowD, List.map_cons, List.map_nil, List.length_cons, List.length_nil, Nat.zero_add, Nat.reduceAdd, List.replicate, List.cons_append, List.nil_append, look, Option.isSome_some, wCons, wBin, wC, wNil, pureL, Bool.and_true, wLst, List.set_cons_zero, List.set_cons_succ, r_for, r_rng1, wLift, r_var, oget_s, r_sub, Int.reduceSub, r2_add, D.pure, Int.reduceAdd, true_and, r_flL, Bool.and_self, Int.reduceLE, Int.reduceNeg, Int.reduceLT, r_powP, Int.reduceToNat, Int.reducePow]
    refine ⟨c, n, _, rfl, by decide, hn, by omega, fun c1 n1 x1 a1 b1 e1 f1 => ?_⟩
    simp only [rowD, r_flL, pureL, D.pure, Bool.and_self, true_and]
    refine ⟨by decide, c1, n1, 137, rfl, by decide, by decide, by omega, by omega, fun c2 r2 a2 b2 => ?_⟩
    simp only [rowD, r2_add, r_rng1I, Int.reducePow, Int.reduceNeg]
    refine ⟨by omega, by omega, pure_rngD, fun i ρ => ∃ (c' n' x : Int) (ts : T) (o5 : Option D), PI (24 + r2).toNat i x ts ∧ n ≤ n' ∧ n' ≤ n + 30 + 30 * (i : Int) ∧ ρ = [some (.lst [.int c', .int n']), some (.int 24), some (.int 160), some (.int x), some (.lst (ts.map pr2)), o5], ⟨c2, n1 + 1, x1, [], none, PI.start, by omega, by omega, rfl⟩, ?_, ?_⟩
    · rintro i d ρ hd ⟨c', n', x, ts, o5, hP, h1, h2, rfl⟩
      obtain ⟨hil, rfl⟩ := rngD_get hd
      have hf := hP.few
      have him := hP.im
      simp only [gN, wSeq, wDrop, wMt, List.set_cons_succ, List.set_cons_zero, look, r_tyL, BEq.rfl, wCons, wTup, wLift, wBin, wLst, wC, wUn, wNil, List.length_cons, List.length_nil, Nat.zero_add, Nat.reduceAdd, wCallI, wHere, pureL, D.pure, Bool.and_self, List.nil_append, wSet, true_and, r_var, r_neg, Int.reduceNeg, Option.isSome_some, oget_s, r2_add, r_app, r_flL]
      refine ⟨by decide, c', n', 2, rfl, by decide, by decide, by omega, by omega, fun c3 r3 a3 b3 => ?_⟩
      obtain ⟨s, hat, hs⟩ : ∃ s : Int, L2.atI [D.int 1, D.int (-1)] r3 = some (.int s) ∧ (s = 1 ∨ s = -1) := by
        rcases pick2 (a := D.int 1) (b := D.int (-1)) a3 b3 with ⟨_, e⟩ | ⟨_, e⟩
        · exact ⟨_, e, .inl rfl⟩
        · exact ⟨_, e, .inr rfl⟩
      simp only [Int.reduceNeg, rowD, r_flL, pureL, D.pure, Bool.and_self, true_and, r_ixL, hat, oget_s]
      refine ⟨c3, n' + 1, 9, rfl, by decide, by decide, by omega, by omega, fun c4 r4 a4 b4 => ?_⟩
      have hs1 : -18446744073709551616 < s := by omega
      have hs2 : s < 18446744073709551616 := by omega
      simp only [List.length_map, rowD, r_flL, pureL, D.pure, Bool.and_self, true_and, r2_add, Int.reduceNeg, hs1, hs2, r_mulA]
      refine ⟨by decide, small (by omega), c4, n' + 1 + 1, 3, rfl, by decide, by decide, by omega, by omega, fun c5 r5 a5 b5 => ?_⟩
      simp only [rowD, r2_add]
      have hy : s * (1 + r4) ≠ 0 ∧ (s * (1 + r4)).natAbs ≤ bgN := by
        rcases hs with h | h <;> (rw [h]; refine ⟨by omega, ?_⟩; unfold bgN; omega)
      refine ⟨c5, n' + 1 + 1 + 1, x + 1 + r5, ts ++ [(x, s * (1 + r4))], some (.int (0 + (i : Int))), hP.more (by omega) hy.1 hy.2 a5, by omega, by omega, ?_⟩
      rw [List.map_append]; rfl
    · rintro ρ ⟨c', n', x, ts, o5, hP, h1, h2, rfl⟩
      simp only [wRet, wCall, wCons, wNil, r_var, look, oget_s, r_flL, pureL, D.pure, Bool.and_self, true_and, r_tupL, pure_two]
      rw [rngD_length] at h2
      have hf := hP.few
      have him := hP.im
      have hnm := hP.nm
      exact k _ _ ts h1 (by omega) hP.is (by omega) (Nat.le_trans hnm (Nat.mul_le_mul_right _ (by rw [rngD_length] at him ⊢; omega)))
def g_law_made : GA := fun ds k => ∃ ts : T, ds = [.tup (ts.map pr2)] ∧ k (.bl true)
abbrev s__law_made : Stmt := top 13
theorem sc__law_made : FnScope ["_law_found", "_law_two", "_law_number_here"] ["_law_found"] (defScope s__law_made) := ⟨rfl, rfl, rfl, by decide +kernel, rfl, by decide +kernel, by decide +kernel⟩
def t__law_made : Tg := ⟨fun i => i == 1 || i == 2, []⟩
def w__law_made : WS := (wSeq (wIf (wNot (wTru (wCall dIsi (wCons (wVar 0) (wCons (wC (.ty .tuple)) wNil))))) (wRet (wC (.bl false))) wNext)
  (wSeq (wFor (wSeqD (wLift (wVar 0))) (gN 1) (wSeq (wIf (wOr (wNot (wTru (wCall dIsi (wCons (wVar 1) (wCons (wC (.ty .tuple)) wNil))))) (wBl (wBin dNe (wCall dLen (wCons (wVar 1) wNil)) (wC (.int 2))))) (wRet (wC (.bl false))) wNext)
  (wFor (wSeqD (wLift (wVar 1))) (gN 2) (wIf (wOr (wNot (wTru (wCall dIsi (wCons (wVar 2) (wCons (wC (.ty .int)) wNil))))) (wTru (wCall dIsi (wCons (wVar 2) (wCons (wC (.ty .bool)) wNil))))) (wRet (wC (.bl false))) wNext))))
  (wRet (wC (.bl true)))))
theorem b__law_made {P : Program} {w : World} {K : PySem.W.Frag} {mg : Str → Option Value} {base : Heap} {f : Addr} (B : Bn mg) : ∀ (cdv : Value) (A : Around) (outer : List PySem.Env) (s : Shared) (H : Hp) (E : XK), Room 0 (A.deeper (envOfC "_law_made" (defScope s__law_made) s.heap.objs.size f cdv)) → SVs (cxOf CX0 P w K mg base ["_law_found", "_law_two", "_law_number_here"] "_law_made" (defScope s__law_made) f cdv A outer s H E).nox t__law_made (defBody s__law_made) w__law_made := fun cdv A outer s H E hr =>
    (svs_cons (sv_if (tv_not (tv_tru (ev_callB cd_isi B.nb_isinstance bt_isinstance (av_cons (ev_var 0) (av_cons (ev_ty .tuple B.nb_tuple bt_tuple) av_nil))))) (svs_one (sv_ret ev_bl)) svs_nil)
    (svs_cons (sv_for PassesOwn.never (iv_seq (ev_lift (ev_var 0))) (gv_name (i := 1) sc__law_made.nd) (svs_cons (sv_if (tv_bool (bv_or (tv_not (tv_tru (ev_callB cd_isi B.nb_isinstance bt_isinstance (av_cons (ev_var 1) (av_cons (ev_ty .tuple B.nb_tuple bt_tuple) av_nil))))) (bv_or1 (tv_cmp (od_ne hr.units) (ev_callB cd_len B.nb_len bt_len (av_cons (ev_var 1) av_nil)) ev_int)))) (svs_one (sv_ret ev_bl)) svs_nil)
    (svs_one (sv_for PassesOwn.never (iv_seq (ev_lift (ev_var 1))) (gv_name (i := 2) sc__law_made.nd) (svs_one (sv_if (tv_bool (bv_or (tv_not (tv_tru (ev_callB cd_isi B.nb_isinstance bt_isinstance (av_cons (ev_var 2) (av_cons (ev_ty .int B.nb_int bt_int) av_nil))))) (bv_or1 (tv_tru (ev_callB cd_isi B.nb_isinstance bt_isinstance (av_cons (ev_var 2) (av_cons (ev_ty .bool B.nb_bool bt_bool) av_nil))))))) (svs_one (sv_ret ev_bl)) svs_nil))))))
    (svs_one (sv_ret ev_bl))))
theorem ok__law_made {P : Program} {w : World} {K : PySem.W.Frag} {mg : Str → Option Value} {base : Heap} {f : Addr} {fd : FuncData} (F : Fun K "_law_made" "_law_made" s__law_made f fd) (B : Bn mg) : FnOk P w K mg base CX0 1 f fd ["_law_found"] (spR K g_law_made) := by
  refine fn_ro (T := t__law_made) F sc__law_made rfl (by decide) (fun ds kk h => ?_) (b__law_made B) (fun ds kk h => ?_)
  · obtain ⟨ts, rfl, _⟩ := h
    rfl
  · obtain ⟨ts, rfl, k⟩ := h
    simp only [w__law_made, wSeq, wIf, wNot, env0, List.map_cons, List.map_nil, List.length_cons, List.length_nil, Nat.zero_add, Nat.reduceAdd, List.replicate, List.cons_append, List.nil_append, wRet, wC, wNext, r_for, r_seq, wLift, r_var, r_tru, wCall, wCons, wNil, r_isi, isiD, r_truB, look, oget_s, D.pure, pure_two, r_seqT, true_and, BEq.rfl, Bool.not_true, Bool.false_eq_true, reduceIte]
    refine ⟨fun _ ρ => ∃ o1 o2 : Option D, ρ = [some (.tup (ts.map pr2)), o1, o2], ⟨none, none, rfl⟩, ?_, ?_⟩
    · rintro i d ρ hd ⟨o1, o2, rfl⟩
      obtain ⟨t, _, rfl⟩ := List.mem_map.mp (List.mem_of_getElem? hd)
      simp only [gN, wSeq, wIf, wOr, wNot, pr2, List.set_cons_succ, List.set_cons_zero, wRet, wC, wNext, r_for, r_seq, wLift, r_var, reduceIte, r_bl, wBin, wCall, wCons, wNil, r_tru, r_isi, isiD, r_truB, look, oget_s, D.pure, pureL, Bool.and_self, r_seqT, true_and, r_lenT, List.length_cons, List.length_nil, Nat.zero_add, Nat.reduceAdd, r_neI, r_blOf, BEq.rfl, Bool.not_true, Bool.false_eq_true]
      refine ⟨fun _ ρ => ∃ o2 : Option D, ρ = [some (.tup (ts.map pr2)), some (pr2 t), o2], ⟨_, rfl⟩, ?_, ?_⟩
      · rintro j d ρ hd ⟨o2, rfl⟩
        obtain ⟨n, rfl⟩ : ∃ n, d = .int n := by
          have := List.mem_of_getElem? hd
          simp only [List.mem_cons, List.mem_nil_iff, or_false] at this
          rcases this with h | h <;> exact ⟨_, h⟩
        simp only [gN, wIf, wOr, wNot, List.set_cons_succ, List.set_cons_zero, wRet, wC, wNext, reduceIte, r_tru, wCall, wCons, wNil, r_isi, isiD, r_truB, r_var, look, oget_s, BEq.rfl, Bool.not_true, Bool.false_eq_true]
        exact ⟨_, rfl⟩
      · rintro ρ ⟨o2, rfl⟩
        exact ⟨_, _, rfl⟩
    · rintro ρ ⟨o1, o2, rfl⟩
      simp only [wRet, wC]
      exact k
def g_law_due : GA := fun ds k => ∃ ts : T, ds = [.fls (ts.map pr2)] ∧ ts.length ≤ 50000 ∧ ∀ us : T, Is us → (∀ f, ev f us = ev f ts) → k (.tup (us.map pr2))
abbrev s__law_due : Stmt := top 14
theorem sc__law_due : FnScope ["_law_terms", "_law_some", "_law_power", "_law_number_here"] ["_law_terms"] (defScope s__law_due) := ⟨rfl, rfl, rfl, by decide +kernel, rfl, by decide +kernel, by decide +kernel⟩
def t__law_due : Tg := ⟨fun i => i == 1 || i == 2 || i == 3, []⟩
def w__law_due : WS := (wSeq (wSet 1 (wC (.dik [])))
  (wSeq (wFor (wSeqF (wVar 0)) (gTupD 2 (gConsD (gN 2) (gConsD (gN 3) gNilD))) (wSetIx 1 (wBin dAddT (wGet2 (wVar 1) (wVar 2) (wC (.int 0))) (wVar 3)) (wVar 2)))
  (wRet (wCall dTuple (wCons (wComp (wSeqD (wCall dSortDL (wCons (wVar 1) wNil))) (wBl (wBin dNe (wBin dIx (wVar 1) (wVar 0)) (wC (.int 0)))) (wLift (wTup (wCons (wVar 0) (wCons (wBin dIx (wVar 1) (wVar 0)) wNil)))) [1]) wNil)))))
theorem b__law_due {P : Program} {w : World} {K : PySem.W.Frag} {mg : Str → Option Value} {base : Heap} {f : Addr} (B : Bn mg) : ∀ (cdv : Value) (A : Around) (outer : List PySem.Env) (s : Shared) (H : Hp) (E : XK), Room 0 (A.deeper (envOfC "_law_due" (defScope s__law_due) s.heap.objs.size f cdv)) → SVs (cxOf CX0 P w K mg base ["_law_terms", "_law_some", "_law_power", "_law_number_here"] "_law_due" (defScope s__law_due) f cdv A outer s H E).nox t__law_due (defBody s__law_due) w__law_due := fun cdv A outer s H E hr =>
    (svs_cons (sv_set (i := 1) ev_dnewK sc__law_due.nd)
    (svs_cons (sv_for PassesOwn.never (iv_fls (ev_var 0)) (gv_tup (gvs_cons (gv_name (i := 2) sc__law_due.nd) (gvs_cons (gv_name (i := 3) sc__law_due.nd) gvs_nil))) (svs_one (sv_setIx (i := 1) (hu_of hr) (ev_op od_addT (ev_get2 (hu_of hr) (ev_var 1) (ev_var 2) ev_int) (ev_var 3)) (ev_var 2))))
    (svs_one (sv_ret (ev_callTy cd_tuple B.nb_tuple bt_tuple (av_cons (ev_compB (comp_ok [1] (iv_seq (ev_callB (cd_sortDL rfl) B.nb_sorted bt_sorted (av_cons (ev_var 1) av_nil))) (fun _ _ _ _ _ => cv_one (tv_cmp (od_ne hr.units) (ev_ix (xd_ix (hu_of hr)) (ev_var 1) (ev_var 0)) ev_int)) (fun _ _ _ _ _ => (ev_lift (ev_tup (av_cons (ev_var 0) (av_cons (ev_ix (xd_ix (hu_of hr)) (ev_var 1) (ev_var 0)) av_nil)))))) (compB_mk (defScope s__law_due) ["_law_terms", "_law_some", "_law_power", "_law_number_here"] (by decide +kernel))) av_nil))))))
theorem ok__law_due {P : Program} {w : World} {K : PySem.W.Frag} {mg : Str → Option Value} {base : Heap} {f : Addr} {fd : FuncData} (F : Fun K "_law_due" "_law_due" s__law_due f fd) (B : Bn mg) : FnOk P w K mg base CX0 1 f fd ["_law_terms"] (spR K g_law_due) := by
  refine fn_ro (T := t__law_due) F sc__law_due rfl (by decide) (fun ds kk h => ?_) (b__law_due B) (fun ds kk h => ?_)
  · obtain ⟨ts, rfl, _⟩ := h
    rfl
  · obtain ⟨ts, rfl, hl, k⟩ := h
    simp only [w__law_due, env0, rowD, List.length_cons, List.length_nil, List.map_cons, List.map_nil, List.cons_append, List.nil_append, List.replicate, wSeq, wSet, r_for, wSeqF, r_var, wC, oget_s, look, List.set_cons_zero, List.set_cons_succ, List.getElem?_cons_zero, List.getElem?_cons_succ, r9_fls, pure_two, true_and]
    exact run_gathered hl fun us h1 _ _ h4 => k us h1 h4
def g_law_product : GA := fun ds k => ∃ a b : T, ds = [.tup (a.map pr2), .tup (b.map pr2)] ∧ a.length * b.length ≤ 50000 ∧ b.length ≤ 50000 ∧ nrm a < 2 ^ 2000 ∧ nrm b < 2 ^ 2000 ∧ k (.lst ((mul a b).map pr2))
abbrev s__law_product : Stmt := top 15
theorem sc__law_product : FnScope ["_law_one", "_law_other", "_law_found", "_law_power", "_law_number_here"] ["_law_one", "_law_other"] (defScope s__law_product) := ⟨rfl, rfl, rfl, by decide +kernel, rfl, by decide +kernel, by decide +kernel⟩
def t__law_product : Tg := ⟨fun i => i == 2 || i == 3 || i == 4, []⟩
def w__law_product : WS := (wSeq (wSet 2 (wLst wNil))
  (wSeq (wFor (wSeqD (wLift (wVar 0))) (gTupD 2 (gConsD (gN 3) (gConsD (gN 4) gNilD))) (wDrop (wMt 2 "list" gExtend (wCons (wComp2 (wSeqD (wVar 1)) wAll (wTup (wCons (wBin dAddT (wVar 3) (wVar 0)) (wCons (wBin dMulB (wVar 2) (wVar 1)) wNil))) [4, 3]) wNil))))
  (wRetS 2)))
theorem b__law_product {P : Program} {w : World} {K : PySem.W.Frag} {mg : Str → Option Value} {base : Heap} {f : Addr} (B : Bn mg) : ∀ (cdv : Value) (A : Around) (outer : List PySem.Env) (s : Shared) (H : Hp) (E : XK), Room 0 (A.deeper (envOfC "_law_product" (defScope s__law_product) s.heap.objs.size f cdv)) → SVs (cxOf CX0 P w K mg base ["_law_one", "_law_other", "_law_found", "_law_power", "_law_number_here"] "_law_product" (defScope s__law_product) f cdv A outer s H E).nox t__law_product (defBody s__law_product) w__law_product := fun cdv A outer s H E hr =>
    (svs_cons (sv_set (i := 2) (ev_lst av_nil) sc__law_product.nd)
    (svs_cons (sv_for PassesOwn.never (iv_seq (ev_lift (ev_var 0))) (gv_tup (gvs_cons (gv_name (i := 3) sc__law_product.nd) (gvs_cons (gv_name (i := 4) sc__law_product.nd) gvs_nil))) (svs_one (sv_expr (ev_mt (i := 2) md_extend PySem.F.plainAttrs_list PySem.F.slot_list_extend PySem.F.type_list_extend (av_cons (ev_comp2 (comp_ok2 [4, 3] (iv_seq (ev_var 1)) (fun _ _ _ _ _ => cv_nil) (fun _ _ _ _ _ => (ev_tup (av_cons (ev_op od_addT (ev_var 3) (ev_var 0)) (av_cons (ev_op od_mulB (ev_var 2) (ev_var 1)) av_nil))))) (compB2_mk (defScope s__law_product) ["_law_one", "_law_other", "_law_found", "_law_power", "_law_number_here"] (by decide +kernel))) av_nil)))))
    (svs_one (sv_retS (i := 2)))))
theorem ok__law_product {P : Program} {w : World} {K : PySem.W.Frag} {mg : Str → Option Value} {base : Heap} {f : Addr} {fd : FuncData} (F : Fun K "_law_product" "_law_product" s__law_product f fd) (B : Bn mg) : FnOk P w K mg base CX0 1 f fd ["_law_one", "_law_other"] (spR K g_law_product) := by
  refine fn_ro (T := t__law_product) F sc__law_product rfl (by decide) (fun ds kk h => ?_) (b__law_product B) (fun ds kk h => ?_)
  · obtain ⟨a, b, rfl, _⟩ := h
    rfl
  · obtain ⟨a, b, rfl, hl, hb, hna, hnb, k⟩ := h
    simp only [w__law_product, wSeq, wSet, wLst, wNil, List.length_nil, sz0, env0, List.map_cons, List.map_nil, List.length_cons, Nat.zero_add, Nat.reduceAdd, List.replicate, List.cons_append, List.nil_append, List.set_cons_succ, List.set_cons_zero, r_for, r_seq, wLift, r_var, look, oget_s, D.pure, pure_two, r_seqT, true_and]
    refine ⟨fun i ρ => ∃ o3 o4 : Option D, i ≤ a.length ∧ ρ = [some (.tup (a.map pr2)), some (.tup (b.map pr2)), some (.lst ((mul (a.take i) b).map pr2)), o3, o4], ⟨none, none, Nat.zero_le _, rfl⟩, ?_, ?_⟩
    · rintro i d ρ hd ⟨o3, o4, hi, rfl⟩
      rw [List.getElem?_map] at hd
      obtain ⟨t, ht, hd⟩ := Option.map_eq_some_iff.mp hd
      subst hd
      have hlt := (List.getElem?_eq_some_iff.mp ht).1
      have ht2 : t.2.natAbs < 2 ^ 2000 := Nat.lt_of_le_of_lt (nrm_mem (List.mem_of_getElem? ht)) hna
      have e : a.take (i + 1) = a.take i ++ [t] := by rw [List.take_add_one, ht]; rfl
      have hml : (mul (a.take i) b).length + b.length ≤ 50000 := by
        have h1 : (a.take (i + 1)).length * b.length ≤ a.length * b.length := Nat.mul_le_mul_right _ (by rw [List.length_take]; omega)
        have h2 : (mul (a.take (i + 1)) b).length = (mul (a.take i) b).length + b.length := by rw [e, mul_snoc, List.length_append, List.length_map]
        rw [← mul_length, h2] at h1
        omega
      simp only [pr2, wDrop, wMt, wCons, wComp2, wNil, r_seq, r_var, r_gTup, List.length_cons, List.length_nil, Nat.zero_add, Nat.reduceAdd, r_gCons, gN, List.set_cons_succ, List.set_cons_zero, r_gNil, look, r_tyL, BEq.rfl, oget_s, r_seqT, pure_two, true_and]
      refine compI2_map (fun u => pr2 (t.1 + u.1, t.2 * u.2)) (small (by omega)) (fun u hu Q' hQ => ?_) ?_
      · have hu2 : u.2.natAbs < 2 ^ 2000 := Nat.lt_of_le_of_lt (nrm_mem hu) hnb
        simp only [wTup, wCons, wBin, blkE2, List.map_cons, look, List.map_nil, wNil, List.length_cons, List.length_nil, Nat.zero_add, Nat.reduceAdd, sz2, true_and, r_var, oget_s, r8_mulB, r2_add]
        exact ⟨ht2, hu2, hQ⟩
      · have e2 : (b.map fun u => pr2 (t.1 + u.1, t.2 * u.2)) = (b.map fun u => (t.1 + u.1, t.2 * u.2)).map pr2 := by rw [List.map_map]; rfl
        rw [e2]
        simp only [look, List.set_cons_succ, List.set_cons_zero, oget_s, S03.r5_ext, pure_two, List.length_map, true_and]
        refine ⟨Nat.le_of_lt (small (by omega)), some (.int t.1), some (.int t.2), hlt, ?_⟩
        rw [e, mul_snoc, List.map_append]
    · rintro ρ ⟨o3, o4, _, rfl⟩
      rw [List.length_map, List.take_of_length_le (Nat.le_refl _)]
      simp only [wRetS, look, oget_s]
      exact k
theorem nrm_drop : ∀ {a : T} {i : Nat}, nrm (a.drop i) ≤ nrm a
  | [], _ => by simp
  | t :: a, 0 => Nat.le_refl _
  | t :: a, i + 1 => by
    have := nrm_drop (a := a) (i := i)
    rw [List.drop_succ_cons]
    show nrm (a.drop i) ≤ t.2.natAbs + nrm a
    omega
theorem nrm_take : ∀ {a : T} {i : Nat}, nrm (a.take i) ≤ nrm a
  | [], _ => by simp
  | t :: a, 0 => Nat.zero_le _
  | t :: a, i + 1 => by
    have := nrm_take (a := a) (i := i)
    show t.2.natAbs + nrm (a.take i) ≤ t.2.natAbs + nrm a
    omega
theorem nrm_sign {s : Int} (h : s.natAbs = 1) : ∀ {a : T}, nrm (a.map fun t => (t.1, s * t.2)) = nrm a
  | [] => rfl
  | t :: a => by
    show (s * t.2).natAbs + nrm (a.map fun t => (t.1, s * t.2)) = t.2.natAbs + nrm a
    rw [nrm_sign h, Int.natAbs_mul, h, Nat.one_mul]
def g_law_second : GI := fun ds k => ∃ (c n : Int) (a : T), ds = [rowD c n, .tup (a.map pr2)] ∧ a.length ≤ 160 ∧ nrm a ≤ 160 * bgN ∧ 0 ≤ n ∧ n ≤ 800000 ∧ ∀ (c' n' : Int) (ts : T), n ≤ n' → n' ≤ n + 20000 → ts.length ≤ 160 → nrm ts ≤ 160 * bgN → k (.tup (ts.map pr2)) (rowD c' n')
abbrev s__law_second : Stmt := top 16
theorem sc__law_second : FnScope ["_law_row", "_law_one", "_law_sign"] ["_law_row", "_law_one"] (defScope s__law_second) := ⟨rfl, rfl, rfl, by decide +kernel, rfl, by decide +kernel, by decide +kernel⟩
def t__law_second : Tg := ⟨fun i => i == 0 || i == 2, [0]⟩
def w__law_second : WS := (wSeq (wIf (wBl (wBin (dCmp fun i j => decide (j < i)) (wCallI 0 g_law_take (wHere 0 (wCons (wC (.int 3)) wNil))) (wC (.int 0)))) (wRet (wCallI 0 g_law_polynomial (wHere 0 (wCons (wBin dSub (wBin dPow (wC (.int 10)) (wC (.int 60))) (wC (.int 1))) (wCons (wC (.int 8)) wNil))))) wNext)
  (wSeq (wSet 2 (wBin dSub (wC (.int 1)) (wBin dMul (wC (.int 2)) (wCallI 0 g_law_take (wHere 0 (wCons (wC (.int 2)) wNil))))))
  (wRet (wCall dTuple (wCons (wComp2 (wSeqD (wSlT (wLift (wVar 1)) (wSome (wCallI 0 g_law_take (wHere 0 (wCons (wC (.int 3)) wNil)))) wNone)) wAll (wLift (wTup (wCons (wVar 0) (wCons (wBin dMulB (wVar 2) (wVar 1)) wNil)))) [2]) wNil)))))
theorem b__law_second {P : Program} {w : World} {K : PySem.W.Frag} {mg : Str → Option Value} {base : Heap} {f : Addr} (B : Bn mg) (C__law_take : Cal P w K mg base "_law_take" 1 ["_law_row", "_law_base"] (spI K 0 g_law_take)) (C__law_polynomial : Cal P w K mg base "_law_polynomial" 3 ["_law_row", "_law_most", "_law_terms"] (spI K 0 g_law_polynomial)) : ∀ (cdv : Value) (A : Around) (outer : List PySem.Env) (s : Shared) (H : Hp) (E : XK), Room 3 (A.deeper (envOfC "_law_second" (defScope s__law_second) s.heap.objs.size f cdv)) → SVs (cxOf CX0 P w K mg base ["_law_row", "_law_one", "_law_sign"] "_law_second" (defScope s__law_second) f cdv A outer s H E).nox t__law_second (defBody s__law_second) w__law_second := fun cdv A outer s H E hr =>
    (svs_cons (sv_if (tv_cmp od_gt (ev_callIC C__law_take (hr.mono (by decide)) (ai_here (i := 0) (av_cons ev_int av_nil))) ev_int) (svs_one (sv_ret (ev_callIC C__law_polynomial (hr.mono (by decide)) (ai_here (i := 0) (av_cons (ev_op od_sub (ev_op od_pow ev_int ev_int) ev_int) (av_cons ev_int av_nil)))))) svs_nil)
    (svs_cons (sv_set (i := 2) (ev_op od_sub ev_int (ev_op od_mul ev_int (ev_callIC C__law_take (hr.mono (by decide)) (ai_here (i := 0) (av_cons ev_int av_nil))))) sc__law_second.nd)
    (svs_one (sv_ret (ev_callTy cd_tuple B.nb_tuple bt_tuple (av_cons (ev_comp2 (comp_ok2 [2] (iv_seq (ev_slT (ev_lift (ev_var 1)) (ov_some (ev_callIC C__law_take (hr.mono (by decide)) (ai_here (i := 0) (av_cons ev_int av_nil)))) ov_none)) (fun _ _ _ _ _ => cv_nil) (fun _ _ _ _ _ => (ev_lift (ev_tup (av_cons (ev_var 0) (av_cons (ev_op od_mulB (ev_var 2) (ev_var 1)) av_nil)))))) (compB2_mk (defScope s__law_second) ["_law_row", "_law_one", "_law_sign"] (by decide +kernel))) av_nil))))))
theorem ok__law_second {P : Program} {w : World} {K : PySem.W.Frag} {mg : Str → Option Value} {base : Heap} {f : Addr} {fd : FuncData} (F : Fun K "_law_second" "_law_second" s__law_second f fd) (B : Bn mg) (C1 : Cal P w K mg base "_law_take" 1 ["_law_row", "_law_base"] (spI K 0 g_law_take)) (C2 : Cal P w K mg base "_law_polynomial" 3 ["_law_row", "_law_most", "_law_terms"] (spI K 0 g_law_polynomial)) :
    FnOk P w K mg base CX0 4 f fd ["_law_row", "_law_one"] (spI K 0 g_law_second) := by
  refine fn_io (T := t__law_second) F sc__law_second rfl rfl (fun ds kk h => ?_) (b__law_second B C1 C2) (fun ds kk h => ?_)
  · obtain ⟨c, n, a, rfl, _⟩ := h
    exact ⟨rfl, _, rfl, rfl⟩
  · obtain ⟨c, n, a, rfl, hl, hnm, hn, hn2, k⟩ := h
    simp only [w__law_second, wSeq, wIf, env0, rowD, List.map_cons, List.map_nil, List.length_cons, List.length_nil, Nat.zero_add, Nat.reduceAdd, List.replicate, List.cons_append, List.nil_append, wRet, wCallI, wHere, wCons, wBin, wC, wNil, pureL, D.pure, Bool.and_self, Bool.and_true, Int.reduceLE, Int.reduceNeg, Int.reduceLT, r_powP, Int.reduceToNat, Int.reducePow, r_sub, Int.reduceSub, true_and, wNext, wSet, wCall, wComp2, r_seq, wSlT, wLift, wNone, r_some, r_var, r_bl, look, Option.isSome_some, List.set_cons_zero, oget_s, List.set_cons_succ, r2_slT, r_seqT, r_flL]
    refine ⟨c, n, 3, rfl, by decide, by decide, hn, by omega, fun c1 r1 a1 b1 => ?_⟩
    simp only [rowD, r_flL, pureL, D.pure, Bool.and_self, true_and, r_cmp, r_blOf]
    split
    · refine ⟨c1, n + 1, _, 8, rfl, by decide, by decide, by decide, by decide, by omega, by omega, fun c2 n2 ts a2 b2 h1 h2 h3 => ?_⟩
      simp only [rowD, r_flL, pureL, D.pure, Bool.and_self, true_and]
      exact k c2 n2 ts (by omega) (by omega) (by omega) (Nat.le_trans h3 (Nat.mul_le_mul_right _ (by decide)))
    · refine ⟨c1, n + 1, 2, rfl, by decide, by decide, by omega, by omega, fun c2 r2 a2 b2 => ?_⟩
      simp only [pure_two, rowD, r_flL, pureL, D.pure, Bool.and_self, true_and, Int.reduceNeg, Int.reduceLT, r_mulA, r_sub]
      refine ⟨c2, n + 1 + 1, 3, rfl, by decide, by decide, by omega, by omega, fun c3 r3 a3 b3 => ?_⟩
      have ec : cutD (a.map pr2) (some r3) none = (a.drop r3.toNat).map pr2 := by
        obtain ⟨i, rfl⟩ := Int.eq_ofNat_of_zero_le a3
        by_cases hi : i ≤ a.length
        · rw [cut_from (by rw [List.length_map]; exact hi), List.map_drop]; rfl
        · have h0 : HT.sIx (a.map pr2).length 0 (some (i : Int)) = min i (a.map pr2).length := HT.sIx_nat _ _ i
          unfold cutD
          rw [h0, List.length_map, List.drop_of_length_le (by rw [List.length_map]; omega), List.drop_of_length_le (by show a.length ≤ i; omega), List.take_nil]
          rfl
      have hs : (1 - 2 * r2).natAbs = 1 := by omega
      simp only [rowD, r_intOf, ec, pure_two, true_and]
      refine compI2_map (fun t => pr2 (t.1, (1 - 2 * r2) * t.2)) (by rw [List.length_drop]; exact small (by omega)) (fun t ht Q' hQ => ?_) ?_
      · have ht2 : t.2.natAbs < 2 ^ 2000 := Nat.lt_of_le_of_lt (Nat.le_trans (nrm_mem (List.mem_of_mem_drop ht)) hnm) (by unfold bgN; decide)
        have hs2 : (1 - 2 * r2).natAbs < 2 ^ 2000 := by rw [hs]; decide
        simp only [wLift, wTup, wCons, blkE2, List.map_cons, look, List.map_nil, wBin, wNil, List.length_cons, List.length_nil, Nat.zero_add, Nat.reduceAdd, sz2, D.pure, pureL, Bool.and_true, true_and, r_var, oget_s, r8_mulB]
        exact ⟨hs2, ht2, hQ⟩
      · have e2 : ((a.drop r3.toNat).map fun t => pr2 (t.1, (1 - 2 * r2) * t.2)) = ((a.drop r3.toNat).map fun t => (t.1, (1 - 2 * r2) * t.2)).map pr2 := by rw [List.map_map]; rfl
        rw [e2]
        simp only [look, oget_s, r_flL, pureL, D.pure, Bool.and_self, true_and, r_tupL, pure_two]
        exact k c3 _ _ (by omega) (by omega) (by rw [List.length_map, List.length_drop]; omega) (by rw [nrm_sign hs]; exact Nat.le_trans nrm_drop hnm)
end K22
set_option Elab.async false
set_option linter.all false
set_option maxRecDepth 100000
set_option maxHeartbeats 4000000
set_option exponentiation.threshold 3000
namespace K22
open PySem PySem.Spec L2 PV
open PyProof.Rows (envOfC)
open Pol Dct
def g_law : GA := fun ds k => ∃ ns : List Int, ds = [.kls (ns.map .int)] ∧ ns.length ≤ 63 ∧ k (.bl true)
theorem swap2 {f : Int → Int} {a b : T} : ev (fun q => ev (fun r => f (q + r)) b) a = ev (fun q => ev (fun r => f (q + r)) a) b := by
  rw [ev_swap (g := fun q r => f (q + r))]
  exact ev_congr (fun r => ev_congr (fun q => by rw [Int.add_comm]) a) b
def cs (u : T × T) : D := .tup [.tup (u.1.map pr2), .fls (u.2.map pr2)]
structure Gc (u : T × T) : Prop where
  is : Is u.1
  len : u.2.length ≤ 50000
  ev : ∀ f, Pol.ev f u.1 = Pol.ev f u.2
theorem bg2 : 160 * bgN < 2 ^ 2000 := by unfold bgN; decide
theorem ev_zsub {f : Int → Int} {a : T} : Pol.ev f (a.map fun t => (0 - t.1, t.2)) = Pol.ev (fun p => f (-p)) a := by
  rw [ev_map (h := fun p => 0 - p)]
  exact ev_congr (fun p => by rw [Int.zero_sub]) a
theorem run_cases {kk : Prop} {l : List (T × T)} (hl : ∀ u ∈ l, Gc u) {ρ0 : PV.Env} {P : EndsP} (h0 : ∃ e0 e1 e2 e3 e4 e5 e6 o8 o9 : Option D, ρ0 = [e0, e1, e2, e3, e4, e5, e6, some (.fls (l.map cs)), o8, o9] ∧ ∀ o8 o9 : Option D, P.nx [e0, e1, e2, e3, e4, e5, e6, some (.fls (l.map cs)), o8, o9]) :
    forI (l.map cs) (gTupD 2 (gConsD (gN 8) (gConsD (gN 9) gNilD))) (wIf (wOr (wNot (wTru (wCall g_law_made (wCons (wVar 8) wNil)))) (wBl (wBin dNe (wVar 8) (wCall g_law_due (wCons (wVar 9) wNil))))) (wRet (wC (.bl false))) wNext) P ρ0 := by
  obtain ⟨e0, e1, e2, e3, e4, e5, e6, o8, o9, rfl, h0⟩ := h0
  refine ⟨fun _ ρ => ∃ o8 o9 : Option D, ρ = [e0, e1, e2, e3, e4, e5, e6, some (.fls (l.map cs)), o8, o9], ⟨o8, o9, rfl⟩, ?_, ?_⟩
  · rintro i d ρ hd ⟨o8, o9, rfl⟩
    obtain ⟨u, hu, rfl⟩ := List.mem_map.mp (List.mem_of_getElem? hd)
    obtain ⟨g1, g2, g3⟩ := hl u hu
    simp only [cs, wIf, wOr, wNot, wRet, wC, wNext, reduceIte, r_bl, wBin, wCall, wCons, wNil, r_var, r_tru, r_gTup, List.length_cons, List.length_nil, Nat.zero_add, Nat.reduceAdd, r_gCons, gN, List.set_cons_succ, List.set_cons_zero, r_gNil, look, oget_s, r_neT, r_blOf, Bool.false_eq_true, true_and]
    refine ⟨u.1, rfl, ?_⟩
    simp only [r_truB, Bool.not_true, Bool.false_eq_true, reduceIte]
    refine ⟨u.2, rfl, g2, fun vs v1 v2 => ?_⟩
    have e : vs = u.1 := uniq v1 g1 fun f => by rw [v2, g3]
    subst e
    exact ⟨two_eq (by omega), two_eq (by omega), fun _ => ⟨_, _, rfl⟩, fun z => absurd rfl z⟩
  · rintro ρ ⟨o8, o9, rfl⟩
    exact h0 o8 o9
abbrev s_law : Stmt := top 17
theorem sc_law : FnScope ["_law_script", "_law_k", "_law_row", "_law_one", "_law_other", "_law_many", "_law_less", "_law_cases", "_law_found", "_law_terms"] ["_law_script"] (defScope s_law) := ⟨rfl, rfl, rfl, by decide +kernel, rfl, by decide +kernel, by decide +kernel⟩
def t_law : Tg := ⟨fun i => i == 1 || i == 2 || i == 3 || i == 4 || i == 5 || i == 6 || i == 7 || i == 8 || i == 9, []⟩
def w_law : WS := (wSeq (wFor (wRng3 (wCons (wC (.int 0)) (wCons (wBin dAddT (wC (.int 1)) (wCall dMin2 (wCons (wC (.int 14)) (wCons (wCall dLen (wCons (wVar 0) wNil)) wNil)))) (wCons (wC (.int 2)) wNil)))) (gN 1) (wSeq (wSet 2 (wLst (wCons (wCall g_law_cell_at (wCons (wVar 0) (wCons (wVar 1) wNil))) (wCons (wC (.int 0)) wNil))))
  (wSeq (wSet 3 (wCallI 2 g_law_polynomial (wHere 2 (wCons (wBin dSub (wBin dPow (wC (.int 10)) (wC (.int 60))) (wC (.int 1))) (wCons (wC (.int 8)) wNil)))))
  (wSeq (wIf (wBl (wBin dEq (wCallI 2 g_law_take (wHere 2 (wCons (wC (.int 8)) wNil))) (wC (.int 1)))) (wSet 3 (wCallI 2 g_law_long (wHere 2 (wCons (wC (.int 24)) (wCons (wC (.int 160)) wNil))))) wNext)
  (wSeq (wSet 2 (wLst (wCons (wCall g_law_cell_at (wCons (wVar 0) (wCons (wBin dAddT (wVar 1) (wC (.int 1))) wNil))) (wCons (wC (.int 5)) wNil))))
  (wSeq (wSet 4 (wSlT (wCallI 2 g_law_second (wHere 2 (wCons (wVar 3) wNil))) wNone (wSome (wC (.int 8)))))
  (wSeq (wSet 5 (wCallI 2 g_law_number (wHere 2 (wCons (wBin dSub (wBin dPow (wC (.int 10)) (wC (.int 60))) (wC (.int 1))) wNil))))
  (wSeq (wSet 6 (wComp2 (wSeqD (wVar 4)) wAll (wLift (wTup (wCons (wVar 0) (wCons (wBin dSub (wC (.int 0)) (wVar 1)) wNil)))) []))
  (wSeq (wSet 7 (wLst (wCons (wTup (wCons (wCall g_plus (wCons (wVar 3) (wCons (wVar 4) wNil))) (wCons (wFrz (wCall dList (wCons (wBin dAddT (wVar 3) (wVar 4)) wNil))) wNil))) (wCons (wTup (wCons (wCall g_minus (wCons (wVar 3) (wCons (wVar 4) wNil))) (wCons (wFrz (wBin dAddT (wCall dList (wCons (wVar 3) wNil)) (wVar 6))) wNil))) wNil))))
  (wSeq (wSet 7 (wBin dAddT (wVar 7) (wLst (wCons (wTup (wCons (wCall g_times (wCons (wVar 3) (wCons (wVar 4) wNil))) (wCons (wFrz (wCall g_law_product (wCons (wVar 3) (wCons (wVar 4) wNil)))) wNil))) (wCons (wTup (wCons (wCall g_times (wCons (wVar 4) (wCons (wVar 3) wNil))) (wCons (wFrz (wCall g_law_product (wCons (wVar 3) (wCons (wVar 4) wNil)))) wNil))) wNil)))))
  (wSeq (wDrop (wMt 7 "list" gAppend (wCons (wTup (wCons (wCall g_lifted (wCons (wVar 3) (wCons (wVar 5) wNil))) (wCons (wFrz (wComp2 (wSeqD (wVar 3)) wAll (wLift (wTup (wCons (wBin dAddT (wVar 0) (wVar 2)) (wCons (wVar 1) wNil)))) [5])) wNil))) wNil)))
  (wSeq (wDrop (wMt 7 "list" gAppend (wCons (wTup (wCons (wCall g_turned_about (wCons (wVar 3) wNil)) (wCons (wFrz (wComp2 (wSeqD (wVar 3)) wAll (wLift (wTup (wCons (wBin dSub (wC (.int 0)) (wVar 0)) (wCons (wVar 1) wNil)))) [])) wNil))) wNil)))
  (wFor (wSeqS 7) (gTupD 2 (gConsD (gN 8) (gConsD (gN 9) gNilD))) (wIf (wOr (wNot (wTru (wCall g_law_made (wCons (wVar 8) wNil)))) (wBl (wBin dNe (wVar 8) (wCall g_law_due (wCons (wVar 9) wNil))))) (wRet (wC (.bl false))) wNext))))))))))))))
  (wRet (wC (.bl true))))
theorem b_law {P : Program} {w : World} {K : PySem.W.Frag} {mg : Str → Option Value} {base : Heap} {f : Addr} (B : Bn mg) (C_plus : Cal P w K mg base "plus" 2 ["one", "other"] (spR K g_plus)) (C_minus : Cal P w K mg base "minus" 2 ["one", "other"] (spR K g_minus)) (C_times : Cal P w K mg base "times" 2 ["one", "other"] (spR K g_times)) (C_lifted : Cal P w K mg base "lifted" 1 ["one", "many"] (spR K g_lifted)) (C_turned_about : Cal P w K mg base "turned_about" 1 ["one"] (spR K g_turned_about)) (C__law_cell_at : Cal P w K mg base "_law_cell_at" 1 ["_law_script", "_law_k"] (spR K g_law_cell_at)) (C__law_take : Cal P w K mg base "_law_take" 1 ["_law_row", "_law_base"] (spI K 0 g_law_take)) (C__law_number : Cal P w K mg base "_law_number" 2 ["_law_row", "_law_most"] (spI K 0 g_law_number)) (C__law_polynomial : Cal P w K mg base "_law_polynomial" 3 ["_law_row", "_law_most", "_law_terms"] (spI K 0 g_law_polynomial)) (C__law_long : Cal P w K mg base "_law_long" 3 ["_law_row", "_law_fewest", "_law_most"] (spI K 0 g_law_long)) (C__law_made : Cal P w K mg base "_law_made" 1 ["_law_found"] (spR K g_law_made)) (C__law_due : Cal P w K mg base "_law_due" 1 ["_law_terms"] (spR K g_law_due)) (C__law_product : Cal P w K mg base "_law_product" 1 ["_law_one", "_law_other"] (spR K g_law_product)) (C__law_second : Cal P w K mg base "_law_second" 4 ["_law_row", "_law_one"] (spI K 0 g_law_second)) : ∀ (cdv : Value) (A : Around) (outer : List PySem.Env) (s : Shared) (H : Hp) (E : XK), Room 4 (A.deeper (envOfC "law" (defScope s_law) s.heap.objs.size f cdv)) → SVs (cxOf CX0 P w K mg base ["_law_script", "_law_k", "_law_row", "_law_one", "_law_other", "_law_many", "_law_less", "_law_cases", "_law_found", "_law_terms"] "law" (defScope s_law) f cdv A outer s H E).nox t_law (defBody s_law) w_law := fun cdv A outer s H E hr =>
    (svs_cons (sv_for PassesOwn.never (iv_range3 B.nb_range (av_cons ev_int (av_cons (ev_op od_addT ev_int (ev_callB (cd_min2 rfl) B.nb_min bt_min (av_cons ev_int (av_cons (ev_callB cd_len B.nb_len bt_len (av_cons (ev_var 0) av_nil)) av_nil)))) (av_cons ev_int av_nil)))) (gv_name (i := 1) sc_law.nd) (svs_cons (sv_set (i := 2) (ev_lst (av_cons (ev_callC C__law_cell_at (hr.mono (by decide)) (av_cons (ev_var 0) (av_cons (ev_var 1) av_nil))) (av_cons ev_int av_nil))) sc_law.nd)
    (svs_cons (sv_set (i := 3) (ev_callIC C__law_polynomial (hr.mono (by decide)) (ai_here (i := 2) (av_cons (ev_op od_sub (ev_op od_pow ev_int ev_int) ev_int) (av_cons ev_int av_nil)))) sc_law.nd)
    (svs_cons (sv_if (tv_cmp (od_eq hr.units) (ev_callIC C__law_take (hr.mono (by decide)) (ai_here (i := 2) (av_cons ev_int av_nil))) ev_int) (svs_one (sv_set (i := 3) (ev_callIC C__law_long (hr.mono (by decide)) (ai_here (i := 2) (av_cons ev_int (av_cons ev_int av_nil)))) sc_law.nd)) svs_nil)
    (svs_cons (sv_set (i := 2) (ev_lst (av_cons (ev_callC C__law_cell_at (hr.mono (by decide)) (av_cons (ev_var 0) (av_cons (ev_op od_addT (ev_var 1) ev_int) av_nil))) (av_cons ev_int av_nil))) sc_law.nd)
    (svs_cons (sv_set (i := 4) (ev_slT (ev_callIC C__law_second (hr.mono (by decide)) (ai_here (i := 2) (av_cons (ev_var 3) av_nil))) ov_none (ov_some ev_int)) sc_law.nd)
    (svs_cons (sv_set (i := 5) (ev_callIC C__law_number (hr.mono (by decide)) (ai_here (i := 2) (av_cons (ev_op od_sub (ev_op od_pow ev_int ev_int) ev_int) av_nil))) sc_law.nd)
    (svs_cons (sv_comp2 (j := 6) (comp_ok2 [] (iv_seq (ev_var 4)) (fun _ _ _ _ _ => cv_nil) (fun _ _ _ _ _ => (ev_lift (ev_tup (av_cons (ev_var 0) (av_cons (ev_op od_sub ev_int (ev_var 1)) av_nil)))))) (compB2_mk (defScope s_law) ["_law_script", "_law_k", "_law_row", "_law_one", "_law_other", "_law_many", "_law_less", "_law_cases", "_law_found", "_law_terms"] (by decide +kernel)) sc_law.nd)
    (svs_cons (sv_set (i := 7) (ev_lst (av_cons (ev_tup (av_cons (ev_callC C_plus (hr.mono (by decide)) (av_cons (ev_var 3) (av_cons (ev_var 4) av_nil))) (av_cons (ev_frz (ev_callTy cd_list B.nb_list bt_list (av_cons (ev_op od_addT (ev_var 3) (ev_var 4)) av_nil))) av_nil))) (av_cons (ev_tup (av_cons (ev_callC C_minus (hr.mono (by decide)) (av_cons (ev_var 3) (av_cons (ev_var 4) av_nil))) (av_cons (ev_frz (ev_op od_addT (ev_callTy cd_list B.nb_list bt_list (av_cons (ev_var 3) av_nil)) (ev_var 6))) av_nil))) av_nil))) sc_law.nd)
    (svs_cons (sv_set (i := 7) (ev_op od_addT (ev_var 7) (ev_lst (av_cons (ev_tup (av_cons (ev_callC C_times (hr.mono (by decide)) (av_cons (ev_var 3) (av_cons (ev_var 4) av_nil))) (av_cons (ev_frz (ev_callC C__law_product (hr.mono (by decide)) (av_cons (ev_var 3) (av_cons (ev_var 4) av_nil)))) av_nil))) (av_cons (ev_tup (av_cons (ev_callC C_times (hr.mono (by decide)) (av_cons (ev_var 4) (av_cons (ev_var 3) av_nil))) (av_cons (ev_frz (ev_callC C__law_product (hr.mono (by decide)) (av_cons (ev_var 3) (av_cons (ev_var 4) av_nil)))) av_nil))) av_nil)))) sc_law.nd)
    (svs_cons (sv_expr (ev_mt (i := 7) md_append PySem.F.plainAttrs_list PySem.F.slot_list_append PySem.F.type_list_append (av_cons (ev_tup (av_cons (ev_callC C_lifted (hr.mono (by decide)) (av_cons (ev_var 3) (av_cons (ev_var 5) av_nil))) (av_cons (ev_frz (ev_comp2 (comp_ok2 [5] (iv_seq (ev_var 3)) (fun _ _ _ _ _ => cv_nil) (fun _ _ _ _ _ => (ev_lift (ev_tup (av_cons (ev_op od_addT (ev_var 0) (ev_var 2)) (av_cons (ev_var 1) av_nil)))))) (compB2_mk (defScope s_law) ["_law_script", "_law_k", "_law_row", "_law_one", "_law_other", "_law_many", "_law_less", "_law_cases", "_law_found", "_law_terms"] (by decide +kernel)))) av_nil))) av_nil)))
    (svs_cons (sv_expr (ev_mt (i := 7) md_append PySem.F.plainAttrs_list PySem.F.slot_list_append PySem.F.type_list_append (av_cons (ev_tup (av_cons (ev_callC C_turned_about (hr.mono (by decide)) (av_cons (ev_var 3) av_nil)) (av_cons (ev_frz (ev_comp2 (comp_ok2 [] (iv_seq (ev_var 3)) (fun _ _ _ _ _ => cv_nil) (fun _ _ _ _ _ => (ev_lift (ev_tup (av_cons (ev_op od_sub ev_int (ev_var 0)) (av_cons (ev_var 1) av_nil)))))) (compB2_mk (defScope s_law) ["_law_script", "_law_k", "_law_row", "_law_one", "_law_other", "_law_many", "_law_less", "_law_cases", "_law_found", "_law_terms"] (by decide +kernel)))) av_nil))) av_nil)))
    (svs_one (sv_for PassesOwn.never (iv_seqS (s := 7)) (gv_tup (gvs_cons (gv_name (i := 8) sc_law.nd) (gvs_cons (gv_name (i := 9) sc_law.nd) gvs_nil))) (svs_one (sv_if (tv_bool (bv_or (tv_not (tv_tru (ev_callC C__law_made (hr.mono (by decide)) (av_cons (ev_var 8) av_nil)))) (bv_or1 (tv_cmp (od_ne hr.units) (ev_var 8) (ev_callC C__law_due (hr.mono (by decide)) (av_cons (ev_var 9) av_nil)))))) (svs_one (sv_ret ev_bl)) svs_nil))))))))))))))))
    (svs_one (sv_ret ev_bl)))
def tailW : WS := (wSeq (wSet 2 (wLst (wCons (wCall g_law_cell_at (wCons (wVar 0) (wCons (wBin dAddT (wVar 1) (wC (.int 1))) wNil))) (wCons (wC (.int 5)) wNil))))
  (wSeq (wSet 4 (wSlT (wCallI 2 g_law_second (wHere 2 (wCons (wVar 3) wNil))) wNone (wSome (wC (.int 8)))))
  (wSeq (wSet 5 (wCallI 2 g_law_number (wHere 2 (wCons (wBin dSub (wBin dPow (wC (.int 10)) (wC (.int 60))) (wC (.int 1))) wNil))))
  (wSeq (wSet 6 (wComp2 (wSeqD (wVar 4)) wAll (wLift (wTup (wCons (wVar 0) (wCons (wBin dSub (wC (.int 0)) (wVar 1)) wNil)))) []))
  (wSeq (wSet 7 (wLst (wCons (wTup (wCons (wCall g_plus (wCons (wVar 3) (wCons (wVar 4) wNil))) (wCons (wFrz (wCall dList (wCons (wBin dAddT (wVar 3) (wVar 4)) wNil))) wNil))) (wCons (wTup (wCons (wCall g_minus (wCons (wVar 3) (wCons (wVar 4) wNil))) (wCons (wFrz (wBin dAddT (wCall dList (wCons (wVar 3) wNil)) (wVar 6))) wNil))) wNil))))
  (wSeq (wSet 7 (wBin dAddT (wVar 7) (wLst (wCons (wTup (wCons (wCall g_times (wCons (wVar 3) (wCons (wVar 4) wNil))) (wCons (wFrz (wCall g_law_product (wCons (wVar 3) (wCons (wVar 4) wNil)))) wNil))) (wCons (wTup (wCons (wCall g_times (wCons (wVar 4) (wCons (wVar 3) wNil))) (wCons (wFrz (wCall g_law_product (wCons (wVar 3) (wCons (wVar 4) wNil)))) wNil))) wNil)))))
  (wSeq (wDrop (wMt 7 "list" gAppend (wCons (wTup (wCons (wCall g_lifted (wCons (wVar 3) (wCons (wVar 5) wNil))) (wCons (wFrz (wComp2 (wSeqD (wVar 3)) wAll (wLift (wTup (wCons (wBin dAddT (wVar 0) (wVar 2)) (wCons (wVar 1) wNil)))) [5])) wNil))) wNil)))
  (wSeq (wDrop (wMt 7 "list" gAppend (wCons (wTup (wCons (wCall g_turned_about (wCons (wVar 3) wNil)) (wCons (wFrz (wComp2 (wSeqD (wVar 3)) wAll (wLift (wTup (wCons (wBin dSub (wC (.int 0)) (wVar 0)) (wCons (wVar 1) wNil)))) [])) wNil))) wNil)))
  (wFor (wSeqS 7) (gTupD 2 (gConsD (gN 8) (gConsD (gN 9) gNilD))) (wIf (wOr (wNot (wTru (wCall g_law_made (wCons (wVar 8) wNil)))) (wBl (wBin dNe (wVar 8) (wCall g_law_due (wCons (wVar 9) wNil))))) (wRet (wC (.bl false))) wNext))))))))))
theorem law_eq : w_law = (wSeq (wFor (wRng3 (wCons (wC (.int 0)) (wCons (wBin dAddT (wC (.int 1)) (wCall dMin2 (wCons (wC (.int 14)) (wCons (wCall dLen (wCons (wVar 0) wNil)) wNil)))) (wCons (wC (.int 2)) wNil)))) (gN 1) (wSeq (wSet 2 (wLst (wCons (wCall g_law_cell_at (wCons (wVar 0) (wCons (wVar 1) wNil))) (wCons (wC (.int 0)) wNil))))
  (wSeq (wSet 3 (wCallI 2 g_law_polynomial (wHere 2 (wCons (wBin dSub (wBin dPow (wC (.int 10)) (wC (.int 60))) (wC (.int 1))) (wCons (wC (.int 8)) wNil)))))
  (wSeq (wIf (wBl (wBin dEq (wCallI 2 g_law_take (wHere 2 (wCons (wC (.int 8)) wNil))) (wC (.int 1)))) (wSet 3 (wCallI 2 g_law_long (wHere 2 (wCons (wC (.int 24)) (wCons (wC (.int 160)) wNil))))) wNext)
  tailW))))
  (wRet (wC (.bl true)))) := rfl
theorem run_tail {ns : List Int} {i : Nat} {d2 : D} {a : T} {o4 o5 o6 o7 o8 o9 : Option D} {P : EndsP} (ha : Is a) (la : a.length ≤ 160) (na : nrm a ≤ 160 * bgN)
    (k : ∀ o2 o3 o4 o5 o6 o7 o8 o9 : Option D, P.nx [some (.kls (ns.map .int)), some (.int (0 + (i : Int) * 2)), o2, o3, o4, o5, o6, o7, o8, o9]) : tailW P [some (.kls (ns.map .int)), some (.int (0 + (i : Int) * 2)), some d2, some (.tup (a.map pr2)), o4, o5, o6, o7, o8, o9] := by
  simp only [tailW, wSeq, wSet, wLst, wCons, wCall, wBin, wC, wNil, List.length_cons, List.length_nil, Nat.zero_add, Nat.reduceAdd, sz2, wSlT, wCallI, wHere, pureL, Bool.and_true, List.nil_append, wNone, wComp2, wTup, wFrz, wDrop, wMt, r_for, wSeqS, true_and, r_seq, r_var, Int.reduceLE, Int.reduceNeg, Int.reduceLT, r_powP, Int.reduceToNat, Int.reducePow, r_sub, D.pure, Int.reduceSub, r_some, r_intOf, look, List.set_cons_succ, List.set_cons_zero, Option.isSome_some, oget_s, r_flL, Bool.and_self, r2_add]
  refine ⟨ns, _, rfl, by omega, fun c1 => ?_⟩
  simp only [pure_two, D.pure, true_and]
  refine ⟨c1, 5, a, rfl, la, na, by decide, by decide, fun c2 n2 b0 a2 e2 lb0 nb0 => ?_⟩
  have ec : cutD (b0.map pr2) none (some 8) = (b0.take 8).map pr2 := by
    have := cut_to (ds := b0.map pr2) (b := 8)
    rw [show ((8 : Nat) : Int) = 8 from rfl] at this
    rw [this, List.map_take]
  obtain ⟨b, hb, lb, nb⟩ : ∃ b : T, b0.take 8 = b ∧ b.length ≤ 8 ∧ nrm b ≤ 160 * bgN := ⟨_, rfl, by rw [List.length_take]; omega, Nat.le_trans nrm_take nb0⟩
  rw [hb] at ec
  simp only [rowD, r_flL, pureL, D.pure, Bool.and_self, true_and, r2_slT, pure_two, ec, r_seqT]
  refine ⟨c2, n2, _, rfl, by decide, by omega, by omega, fun c3 n3 m _ _ _ _ => ?_⟩
  simp only [rowD]
  refine compI2_map (fun t => pr2 (t.1, 0 - t.2)) (small (by omega)) (fun t ht Q' hQ => ?_) ?_
  · simp only [wLift, wTup, wCons, blkE2, List.map_nil, wBin, wC, wNil, List.length_cons, List.length_nil, Nat.zero_add, Nat.reduceAdd, sz2, D.pure, pureL, Bool.and_true, true_and, r_var, look, oget_s, r_sub]
    exact hQ
  · have el : (b.map fun t => pr2 (t.1, 0 - t.2)) = (neg b).map pr2 := by
      unfold neg
      rw [List.map_map]
      exact List.map_congr_left fun t _ => by show pr2 (t.1, 0 - t.2) = pr2 (t.1, -t.2); rw [Int.zero_sub]
    have hneg : (neg b).length = b.length := List.length_map ..
    have la2 : nrm a < 2 ^ 2000 := Nat.lt_of_le_of_lt na bg2
    have lb2 : nrm b < 2 ^ 2000 := Nat.lt_of_le_of_lt nb bg2
    have lab : a.length * b.length ≤ 1280 := Nat.mul_le_mul la lb
    have lba : b.length * a.length ≤ 1280 := by rw [Nat.mul_comm]; exact lab
    rw [el]
    simp only [List.set_cons_succ, List.set_cons_zero, look, oget_s, r_seqT, pure_two, true_and, r2_addL, pureL, D.pure, Bool.and_true, List.length_cons, List.length_nil, Nat.zero_add, Nat.reduceAdd, sz4, List.cons_append, List.nil_append, r_tyL, BEq.rfl, r_listT, r9_frz, r2_addT]
    refine ⟨a, b, rfl, by omega, fun u1 i1 _ _ v1 => ?_⟩
    simp only [List.length_map, D.pure, pure_two, Bool.true_and]
    have ab : a.map pr2 ++ b.map pr2 = (a ++ b).map pr2 := (List.map_append ..).symm
    have anb : a.map pr2 ++ (neg b).map pr2 = (a ++ neg b).map pr2 := (List.map_append ..).symm
    rw [ab, anb]
    refine ⟨Nat.le_of_lt (small (by omega)), pure_two, pure_two, a, b, rfl, by omega, fun u2 i2 _ _ v2 => ⟨Nat.le_of_lt (small (by omega)), pure_two, a, b, rfl, by omega, by omega, la2, lb2, fun u3 i3 _ _ v3 => ?_⟩⟩
    refine ⟨a, b, rfl, by omega, by omega, la2, lb2, ?_⟩
    simp only [D.pure, pure_two, Bool.true_and, true_and, r9_frz]
    refine ⟨b, a, rfl, by omega, by omega, lb2, la2, fun u4 i4 _ _ v4 => ?_⟩
    refine ⟨a, b, rfl, by omega, by omega, la2, lb2, ?_⟩
    simp only [D.pure, pure_two, Bool.true_and, r9_frz, true_and]
    refine ⟨a, m, rfl, by omega, ?_⟩
    simp only []
    refine compI2_map (fun t => pr2 (t.1 + m, t.2)) (small (by omega)) (fun t ht Q' hQ => ?_) ?_
    · simp only [wLift, wTup, wCons, wBin, blkE2, List.map_cons, look, List.map_nil, wNil, List.length_cons, List.length_nil, Nat.zero_add, Nat.reduceAdd, sz2, D.pure, pureL, Bool.and_true, true_and, r_var, oget_s, r2_add]
      exact hQ
    have el2 : (a.map fun t => pr2 (t.1 + m, t.2)) = (lift a m).map pr2 := by unfold lift; rw [List.map_map]; rfl
    rw [el2]
    simp only [look, List.set_cons_succ, List.set_cons_zero, oget_s, r_seqT, pure_two, true_and, r_app, List.length_cons, List.length_nil, Nat.zero_add, Nat.reduceAdd, List.cons_append, List.nil_append, r_tyL, BEq.rfl, r9_frz]
    refine ⟨by decide, a, rfl, by omega, ?_⟩
    simp only []
    refine compI2_map (fun t => pr2 (0 - t.1, t.2)) (small (by omega)) (fun t ht Q' hQ => ?_) ?_
    · simp only [wLift, wTup, wCons, wBin, wC, blkE2, List.map_nil, wNil, List.length_cons, List.length_nil, Nat.zero_add, Nat.reduceAdd, sz2, D.pure, pureL, Bool.and_true, true_and, r_var, look, oget_s, r_sub]
      exact hQ
    have el3 : (a.map fun t => pr2 (0 - t.1, t.2)) = (a.map fun t => (0 - t.1, t.2)).map pr2 := by rw [List.map_map]; rfl
    rw [el3]
    simp only [look, List.set_cons_succ, List.set_cons_zero, oget_s, r_app, List.length_cons, List.length_nil, Nat.zero_add, Nat.reduceAdd, List.cons_append, List.nil_append, r9_lst, pureL, D.pure, pure_two, Bool.and_self, Bool.and_true, Bool.true_and, r9_frz, true_and]
    refine ⟨by decide, ?_⟩
    have run := run_cases (kk := True) (l := [(u1, a ++ b), (u2, a ++ neg b), (u3, mul a b), (u4, mul a b), (lift a m, lift a m), (turn a, a.map fun t => (0 - t.1, t.2))]) (fun u hu => ?_)
      (ρ0 := [some (.kls (ns.map .int)), some (.int (0 + (i : Int) * 2)), some (.lst [.int c3, .int n3]), some (.tup (a.map pr2)), some (.tup (b.map pr2)), some (.int m), some (.lst ((neg b).map pr2)), some (.fls ([(u1, a ++ b), (u2, a ++ neg b), (u3, mul a b), (u4, mul a b), (lift a m, lift a m), (turn a, a.map fun t => (0 - t.1, t.2))].map cs)), o8, o9]) (P := P)
      ⟨_, _, _, _, _, _, _, _, _, rfl, fun _ _ => k _ _ _ _ _ _ _ _⟩
    · exact run
    · simp only [List.mem_cons, List.mem_nil_iff, or_false] at hu
      have lt : (a.map fun t => (0 - t.1, t.2)).length = a.length := List.length_map ..
      have ll : (lift a m).length = a.length := List.length_map ..
      rcases hu with rfl | rfl | rfl | rfl | rfl | rfl
      · exact ⟨i1, by show (a ++ b).length ≤ _; rw [List.length_append]; omega, fun f => by rw [v1, ev_append]⟩
      · exact ⟨i2, by show (a ++ neg b).length ≤ _; rw [List.length_append, hneg]; omega, fun f => by rw [v2, ev_append, ev_neg]; omega⟩
      · exact ⟨i3, by show (mul a b).length ≤ _; rw [mul_length]; omega, fun f => by rw [v3, ev_mul]⟩
      · exact ⟨i4, by show (mul a b).length ≤ _; rw [mul_length]; omega, fun f => by rw [v4, ev_mul, swap2]⟩
      · exact ⟨is_lift ha, by show (lift a m).length ≤ _; omega, fun f => rfl⟩
      · exact ⟨is_turn ha, by show (a.map fun t => (0 - t.1, t.2)).length ≤ _; omega, fun f => by rw [ev_turn, ev_zsub]⟩
theorem ok_law {P : Program} {w : World} {K : PySem.W.Frag} {mg : Str → Option Value} {base : Heap} {f : Addr} {fd : FuncData} (F : Fun K "law" "law" s_law f fd) (B : Bn mg) (C1 : Cal P w K mg base "plus" 2 ["one", "other"] (spR K g_plus)) (C2 : Cal P w K mg base "minus" 2 ["one", "other"] (spR K g_minus)) (C3 : Cal P w K mg base "times" 2 ["one", "other"] (spR K g_times)) (C4 : Cal P w K mg base "lifted" 1 ["one", "many"] (spR K g_lifted)) (C5 : Cal P w K mg base "turned_about" 1 ["one"] (spR K g_turned_about)) (C6 : Cal P w K mg base "_law_cell_at" 1 ["_law_script", "_law_k"] (spR K g_law_cell_at)) (C7 : Cal P w K mg base "_law_take" 1 ["_law_row", "_law_base"] (spI K 0 g_law_take)) (C8 : Cal P w K mg base "_law_number" 2 ["_law_row", "_law_most"] (spI K 0 g_law_number)) (C9 : Cal P w K mg base "_law_polynomial" 3 ["_law_row", "_law_most", "_law_terms"] (spI K 0 g_law_polynomial)) (C10 : Cal P w K mg base "_law_long" 3 ["_law_row", "_law_fewest", "_law_most"] (spI K 0 g_law_long)) (C11 : Cal P w K mg base "_law_made" 1 ["_law_found"] (spR K g_law_made)) (C12 : Cal P w K mg base "_law_due" 1 ["_law_terms"] (spR K g_law_due)) (C13 : Cal P w K mg base "_law_product" 1 ["_law_one", "_law_other"] (spR K g_law_product)) (C14 : Cal P w K mg base "_law_second" 4 ["_law_row", "_law_one"] (spI K 0 g_law_second)) : FnOk P w K mg base CX0 5 f fd ["_law_script"] (spR K g_law) := by
  refine fn_ro (T := t_law) F sc_law rfl (by decide) (fun ds kk h => ?_) (b_law B C1 C2 C3 C4 C5 C6 C7 C8 C9 C10 C11 C12 C13 C14) (fun ds kk h => ?_)
  · obtain ⟨ns, rfl, _⟩ := h
    rfl
  · obtain ⟨ns, rfl, hns, k⟩ := h
    rw [law_eq]
    simp only [wSeq, env0, List.map_cons, List.map_nil, List.length_cons, List.length_nil, Nat.zero_add, Nat.reduceAdd, List.replicate, List.cons_append, List.nil_append, r_for, r8_rng3, wCons, wC, wBin, wCall, wNil, r_var, look, oget_s, r_lenK, List.length_map, r_min, r2_add, r8_rng3I, Int.reducePow, Int.reduceNeg, Int.reduceLE, Int.reduceLT, true_and, pure_rngS]
    have hmin : ∃ q : Int, (if (ns.length : Int) < 14 then (ns.length : Int) else 14) = q ∧ 0 ≤ q ∧ q ≤ 14 := ⟨_, rfl, by split <;> omega, by split <;> omega⟩
    obtain ⟨q, hq, q0, q1⟩ := hmin
    rw [hq]
    refine ⟨by omega, .inl trivial, fun _ ρ => ∃ o1 o2 o3 o4 o5 o6 o7 o8 o9 : Option D, ρ = [some (.kls (ns.map .int)), o1, o2, o3, o4, o5, o6, o7, o8, o9], ⟨none, none, none, none, none, none, none, none, none, rfl⟩, ?_, ?_⟩
    · rintro i d ρ hd ⟨o1, o2, o3, o4, o5, o6, o7, o8, o9, rfl⟩
      obtain ⟨hi, rfl⟩ := rngS_get hd
      simp only [gN, wSeq, wSet, wLst, wCons, wCall, List.set_cons_succ, List.set_cons_zero, wNil, wC, List.length_cons, List.length_nil, Nat.zero_add, Nat.reduceAdd, sz2, wCallI, wHere, wBin, pureL, D.pure, Bool.and_self, Bool.and_true, List.nil_append, wIf, true_and, wNext, r_bl, Int.reduceLE, Int.reduceNeg, Int.reduceLT, r_powP, Int.reduceToNat, Int.reducePow, r_sub, Int.reduceSub, r_var, look, Option.isSome_some, oget_s, r_flL]
      refine ⟨ns, _, rfl, by omega, fun c0 => ?_⟩
      simp only [D.pure, true_and]
      refine ⟨c0, 0, _, 8, rfl, by decide, by decide, by decide, by decide, by decide, by decide, fun c1 n1 a a1 b1 h1 h2 h3 => ?_⟩
      simp only [rowD, r_flL, pureL, D.pure, Bool.and_self, true_and]
      refine ⟨c1, n1, 8, rfl, by decide, by decide, by omega, by omega, fun c2 r2 a2 b2 => ?_⟩
      simp only [rowD, r_flL, pureL, D.pure, Bool.and_self, true_and, r_eqI, r_blOf]
      split
      · refine ⟨c2, n1 + 1, rfl, by omega, by omega, fun c3 n3 a' a3 b3 j1 j2 j3 => ?_⟩
        simp only [rowD]
        exact run_tail j1 j2 j3 fun _ _ _ _ _ _ _ _ => ⟨_, _, _, _, _, _, _, _, _, rfl⟩
      · exact run_tail h1 (by omega) (Nat.le_trans h3 (Nat.mul_le_mul_right _ (by decide))) fun _ _ _ _ _ _ _ _ => ⟨_, _, _, _, _, _, _, _, _, rfl⟩
    · rintro ρ ⟨o1, o2, o3, o4, o5, o6, o7, o8, o9, rfl⟩
      simp only [wRet, wC]
      exact k
end K22
set_option Elab.async false
set_option linter.all false
set_option maxRecDepth 100000
set_option maxHeartbeats 4000000
namespace K22
open PySem PySem.Spec L2 PV
open PyProof.Rows (envOfC)
theorem all_mk {l : PySem.W.OpenLaw} {w : World} {K : PySem.W.Frag} {h : Heap} {mg : Str → Option Value} {fa : Addr} (X : K.In h) (G : h.Ns mainGlobals mg) (hfa : mg "law" = some (.ref fa))
    {f1 : Addr} {od1 an1 : Option Addr} {sl1 : Array (Option Value)} {oc1 kV1 dc1 pm1 cd1 ct1 : Value}
    (a1 : PySem.W.nsIn K mainGlobals "gathered" = some (some (.ref f1))) (l1 : K.lookup f1 = some ⟨oc1, od1, .func (PySem.W.fnOf "gathered" "gathered" (defArgs s_gathered) (defBody s_gathered) (defScope s_gathered) .none kV1 dc1 pm1 an1 cd1 ct1), sl1⟩) (c1 : PySem.W.codeIn K cd1 "gathered" = true) (k1 : PySem.W.keepIn K (.ref f1) = true)
    {f2 : Addr} {od2 an2 : Option Addr} {sl2 : Array (Option Value)} {oc2 kV2 dc2 pm2 cd2 ct2 : Value}
    (a2 : PySem.W.nsIn K mainGlobals "plus" = some (some (.ref f2))) (l2 : K.lookup f2 = some ⟨oc2, od2, .func (PySem.W.fnOf "plus" "plus" (defArgs s_plus) (defBody s_plus) (defScope s_plus) .none kV2 dc2 pm2 an2 cd2 ct2), sl2⟩) (c2 : PySem.W.codeIn K cd2 "plus" = true) (k2 : PySem.W.keepIn K (.ref f2) = true)
    {f3 : Addr} {od3 an3 : Option Addr} {sl3 : Array (Option Value)} {oc3 kV3 dc3 pm3 cd3 ct3 : Value}
    (a3 : PySem.W.nsIn K mainGlobals "minus" = some (some (.ref f3))) (l3 : K.lookup f3 = some ⟨oc3, od3, .func (PySem.W.fnOf "minus" "minus" (defArgs s_minus) (defBody s_minus) (defScope s_minus) .none kV3 dc3 pm3 an3 cd3 ct3), sl3⟩) (c3 : PySem.W.codeIn K cd3 "minus" = true) (k3 : PySem.W.keepIn K (.ref f3) = true)
    {f4 : Addr} {od4 an4 : Option Addr} {sl4 : Array (Option Value)} {oc4 kV4 dc4 pm4 cd4 ct4 : Value}
    (a4 : PySem.W.nsIn K mainGlobals "times" = some (some (.ref f4))) (l4 : K.lookup f4 = some ⟨oc4, od4, .func (PySem.W.fnOf "times" "times" (defArgs s_times) (defBody s_times) (defScope s_times) .none kV4 dc4 pm4 an4 cd4 ct4), sl4⟩) (c4 : PySem.W.codeIn K cd4 "times" = true) (k4 : PySem.W.keepIn K (.ref f4) = true)
    {f5 : Addr} {od5 an5 : Option Addr} {sl5 : Array (Option Value)} {oc5 kV5 dc5 pm5 cd5 ct5 : Value}
    (a5 : PySem.W.nsIn K mainGlobals "lifted" = some (some (.ref f5))) (l5 : K.lookup f5 = some ⟨oc5, od5, .func (PySem.W.fnOf "lifted" "lifted" (defArgs s_lifted) (defBody s_lifted) (defScope s_lifted) .none kV5 dc5 pm5 an5 cd5 ct5), sl5⟩) (c5 : PySem.W.codeIn K cd5 "lifted" = true) (k5 : PySem.W.keepIn K (.ref f5) = true)
    {f6 : Addr} {od6 an6 : Option Addr} {sl6 : Array (Option Value)} {oc6 kV6 dc6 pm6 cd6 ct6 : Value}
    (a6 : PySem.W.nsIn K mainGlobals "turned_about" = some (some (.ref f6))) (l6 : K.lookup f6 = some ⟨oc6, od6, .func (PySem.W.fnOf "turned_about" "turned_about" (defArgs s_turned_about) (defBody s_turned_about) (defScope s_turned_about) .none kV6 dc6 pm6 an6 cd6 ct6), sl6⟩) (c6 : PySem.W.codeIn K cd6 "turned_about" = true) (k6 : PySem.W.keepIn K (.ref f6) = true)
    {f7 : Addr} {od7 an7 : Option Addr} {sl7 : Array (Option Value)} {oc7 kV7 dc7 pm7 cd7 ct7 : Value}
    (a7 : PySem.W.nsIn K mainGlobals "_law_cell_at" = some (some (.ref f7))) (l7 : K.lookup f7 = some ⟨oc7, od7, .func (PySem.W.fnOf "_law_cell_at" "_law_cell_at" (defArgs s__law_cell_at) (defBody s__law_cell_at) (defScope s__law_cell_at) .none kV7 dc7 pm7 an7 cd7 ct7), sl7⟩) (c7 : PySem.W.codeIn K cd7 "_law_cell_at" = true) (k7 : PySem.W.keepIn K (.ref f7) = true)
    {f8 : Addr} {od8 an8 : Option Addr} {sl8 : Array (Option Value)} {oc8 kV8 dc8 pm8 cd8 ct8 : Value}
    (a8 : PySem.W.nsIn K mainGlobals "_law_take" = some (some (.ref f8))) (l8 : K.lookup f8 = some ⟨oc8, od8, .func (PySem.W.fnOf "_law_take" "_law_take" (defArgs s__law_take) (defBody s__law_take) (defScope s__law_take) .none kV8 dc8 pm8 an8 cd8 ct8), sl8⟩) (c8 : PySem.W.codeIn K cd8 "_law_take" = true) (k8 : PySem.W.keepIn K (.ref f8) = true)
    {f9 : Addr} {od9 an9 : Option Addr} {sl9 : Array (Option Value)} {oc9 kV9 dc9 pm9 cd9 ct9 : Value}
    (a9 : PySem.W.nsIn K mainGlobals "_law_number" = some (some (.ref f9))) (l9 : K.lookup f9 = some ⟨oc9, od9, .func (PySem.W.fnOf "_law_number" "_law_number" (defArgs s__law_number) (defBody s__law_number) (defScope s__law_number) .none kV9 dc9 pm9 an9 cd9 ct9), sl9⟩) (c9 : PySem.W.codeIn K cd9 "_law_number" = true) (k9 : PySem.W.keepIn K (.ref f9) = true)
    {f10 : Addr} {od10 an10 : Option Addr} {sl10 : Array (Option Value)} {oc10 kV10 dc10 pm10 cd10 ct10 : Value}
    (a10 : PySem.W.nsIn K mainGlobals "_law_polynomial" = some (some (.ref f10))) (l10 : K.lookup f10 = some ⟨oc10, od10, .func (PySem.W.fnOf "_law_polynomial" "_law_polynomial" (defArgs s__law_polynomial) (defBody s__law_polynomial) (defScope s__law_polynomial) .none kV10 dc10 pm10 an10 cd10 ct10), sl10⟩) (c10 : PySem.W.codeIn K cd10 "_law_polynomial" = true) (k10 : PySem.W.keepIn K (.ref f10) = true)
    {f11 : Addr} {od11 an11 : Option Addr} {sl11 : Array (Option Value)} {oc11 kV11 dc11 pm11 cd11 ct11 : Value}
    (a11 : PySem.W.nsIn K mainGlobals "_law_long" = some (some (.ref f11))) (l11 : K.lookup f11 = some ⟨oc11, od11, .func (PySem.W.fnOf "_law_long" "_law_long" (defArgs s__law_long) (defBody s__law_long) (defScope s__law_long) .none kV11 dc11 pm11 an11 cd11 ct11), sl11⟩) (c11 : PySem.W.codeIn K cd11 "_law_long" = true) (k11 : PySem.W.keepIn K (.ref f11) = true)
    {f12 : Addr} {od12 an12 : Option Addr} {sl12 : Array (Option Value)} {oc12 kV12 dc12 pm12 cd12 ct12 : Value}
    (a12 : PySem.W.nsIn K mainGlobals "_law_made" = some (some (.ref f12))) (l12 : K.lookup f12 = some ⟨oc12, od12, .func (PySem.W.fnOf "_law_made" "_law_made" (defArgs s__law_made) (defBody s__law_made) (defScope s__law_made) .none kV12 dc12 pm12 an12 cd12 ct12), sl12⟩) (c12 : PySem.W.codeIn K cd12 "_law_made" = true) (k12 : PySem.W.keepIn K (.ref f12) = true)
    {f13 : Addr} {od13 an13 : Option Addr} {sl13 : Array (Option Value)} {oc13 kV13 dc13 pm13 cd13 ct13 : Value}
    (a13 : PySem.W.nsIn K mainGlobals "_law_due" = some (some (.ref f13))) (l13 : K.lookup f13 = some ⟨oc13, od13, .func (PySem.W.fnOf "_law_due" "_law_due" (defArgs s__law_due) (defBody s__law_due) (defScope s__law_due) .none kV13 dc13 pm13 an13 cd13 ct13), sl13⟩) (c13 : PySem.W.codeIn K cd13 "_law_due" = true) (k13 : PySem.W.keepIn K (.ref f13) = true)
    {f14 : Addr} {od14 an14 : Option Addr} {sl14 : Array (Option Value)} {oc14 kV14 dc14 pm14 cd14 ct14 : Value}
    (a14 : PySem.W.nsIn K mainGlobals "_law_product" = some (some (.ref f14))) (l14 : K.lookup f14 = some ⟨oc14, od14, .func (PySem.W.fnOf "_law_product" "_law_product" (defArgs s__law_product) (defBody s__law_product) (defScope s__law_product) .none kV14 dc14 pm14 an14 cd14 ct14), sl14⟩) (c14 : PySem.W.codeIn K cd14 "_law_product" = true) (k14 : PySem.W.keepIn K (.ref f14) = true)
    {f15 : Addr} {od15 an15 : Option Addr} {sl15 : Array (Option Value)} {oc15 kV15 dc15 pm15 cd15 ct15 : Value}
    (a15 : PySem.W.nsIn K mainGlobals "_law_second" = some (some (.ref f15))) (l15 : K.lookup f15 = some ⟨oc15, od15, .func (PySem.W.fnOf "_law_second" "_law_second" (defArgs s__law_second) (defBody s__law_second) (defScope s__law_second) .none kV15 dc15 pm15 an15 cd15 ct15), sl15⟩) (c15 : PySem.W.codeIn K cd15 "_law_second" = true) (k15 : PySem.W.keepIn K (.ref f15) = true)
    {f16 : Addr} {od16 an16 : Option Addr} {sl16 : Array (Option Value)} {oc16 kV16 dc16 pm16 cd16 ct16 : Value}
    (a16 : PySem.W.nsIn K mainGlobals "law" = some (some (.ref f16))) (l16 : K.lookup f16 = some ⟨oc16, od16, .func (PySem.W.fnOf "law" "law" (defArgs s_law) (defBody s_law) (defScope s_law) .none kV16 dc16 pm16 an16 cd16 ct16), sl16⟩) (c16 : PySem.W.codeIn K cd16 "law" = true) (k16 : PySem.W.keepIn K (.ref f16) = true)
    (z_bool : PySem.W.nsIn K mainGlobals "bool" = some none)
    (z_int : PySem.W.nsIn K mainGlobals "int" = some none)
    (z_isinstance : PySem.W.nsIn K mainGlobals "isinstance" = some none)
    (z_len : PySem.W.nsIn K mainGlobals "len" = some none)
    (z_list : PySem.W.nsIn K mainGlobals "list" = some none)
    (z_min : PySem.W.nsIn K mainGlobals "min" = some none)
    (z_range : PySem.W.nsIn K mainGlobals "range" = some none)
    (z_reversed : PySem.W.nsIn K mainGlobals "reversed" = some none)
    (z_sorted : PySem.W.nsIn K mainGlobals "sorted" = some none)
    (z_tuple : PySem.W.nsIn K mainGlobals "tuple" = some none)
    : ∃ fd : FuncData, (∀ (s : Shared) (v : Value), BindsTo s fd ⟨[v], []⟩ [("_law_script", v)]) ∧ ∀ base : Heap, K.In base → base.Ns mainGlobals mg → FnOk l.prog w K mg base CX0 5 fa fd ["_law_script"] (spR K g_law) := by
  have e := hfa.symm.trans (PySem.W.mg_of X G a16)
  cases e
  have B : Bn mg := ⟨PySem.W.mg_none_of X G z_bool, PySem.W.mg_none_of X G z_int, PySem.W.mg_none_of X G z_isinstance, PySem.W.mg_none_of X G z_len, PySem.W.mg_none_of X G z_list, PySem.W.mg_none_of X G z_min, PySem.W.mg_none_of X G z_range, PySem.W.mg_none_of X G z_reversed, PySem.W.mg_none_of X G z_sorted, PySem.W.mg_none_of X G z_tuple⟩
  have F1 := fun_mk (st := s_gathered) l1 c1 k1
  have F2 := fun_mk (st := s_plus) l2 c2 k2
  have F3 := fun_mk (st := s_minus) l3 c3 k3
  have F4 := fun_mk (st := s_times) l4 c4 k4
  have F5 := fun_mk (st := s_lifted) l5 c5 k5
  have F6 := fun_mk (st := s_turned_about) l6 c6 k6
  have F7 := fun_mk (st := s__law_cell_at) l7 c7 k7
  have F8 := fun_mk (st := s__law_take) l8 c8 k8
  have F9 := fun_mk (st := s__law_number) l9 c9 k9
  have F10 := fun_mk (st := s__law_polynomial) l10 c10 k10
  have F11 := fun_mk (st := s__law_long) l11 c11 k11
  have F12 := fun_mk (st := s__law_made) l12 c12 k12
  have F13 := fun_mk (st := s__law_due) l13 c13 k13
  have F14 := fun_mk (st := s__law_product) l14 c14 k14
  have F15 := fun_mk (st := s__law_second) l15 c15 k15
  have F16 := fun_mk (st := s_law) l16 c16 k16
  refine ⟨PySem.W.fnOf "law" "law" (defArgs s_law) (defBody s_law) (defScope s_law) .none kV16 dc16 pm16 an16 cd16 ct16, fun s v => .of_eq rfl, fun base _ _ => ?_⟩
  have C_gathered : Cal l.prog w K mg base "gathered" 1 ["terms"] (spR K g_gathered) := ⟨f1, _, ok_gathered F1 B, PySem.W.mg_of X G a1, k1, F1.binds fun _ _ _ _ _ _ us hl => match us, hl with | [_], _ => rfl⟩
  have C_plus : Cal l.prog w K mg base "plus" 2 ["one", "other"] (spR K g_plus) := ⟨f2, _, ok_plus F2 B C_gathered, PySem.W.mg_of X G a2, k2, F2.binds fun _ _ _ _ _ _ us hl => match us, hl with | [_, _], _ => rfl⟩
  have C_minus : Cal l.prog w K mg base "minus" 2 ["one", "other"] (spR K g_minus) := ⟨f3, _, ok_minus F3 B C_gathered, PySem.W.mg_of X G a3, k3, F3.binds fun _ _ _ _ _ _ us hl => match us, hl with | [_, _], _ => rfl⟩
  have C_times : Cal l.prog w K mg base "times" 2 ["one", "other"] (spR K g_times) := ⟨f4, _, ok_times F4 B C_gathered, PySem.W.mg_of X G a4, k4, F4.binds fun _ _ _ _ _ _ us hl => match us, hl with | [_, _], _ => rfl⟩
  have C_lifted : Cal l.prog w K mg base "lifted" 1 ["one", "many"] (spR K g_lifted) := ⟨f5, _, ok_lifted F5 B, PySem.W.mg_of X G a5, k5, F5.binds fun _ _ _ _ _ _ us hl => match us, hl with | [_, _], _ => rfl⟩
  have C_turned_about : Cal l.prog w K mg base "turned_about" 1 ["one"] (spR K g_turned_about) := ⟨f6, _, ok_turned_about F6 B, PySem.W.mg_of X G a6, k6, F6.binds fun _ _ _ _ _ _ us hl => match us, hl with | [_], _ => rfl⟩
  have C__law_cell_at : Cal l.prog w K mg base "_law_cell_at" 1 ["_law_script", "_law_k"] (spR K g_law_cell_at) := ⟨f7, _, ok__law_cell_at F7 B, PySem.W.mg_of X G a7, k7, F7.binds fun _ _ _ _ _ _ us hl => match us, hl with | [_, _], _ => rfl⟩
  have C__law_take : Cal l.prog w K mg base "_law_take" 1 ["_law_row", "_law_base"] (spI K 0 g_law_take) := ⟨f8, _, ok__law_take F8 B, PySem.W.mg_of X G a8, k8, F8.binds fun _ _ _ _ _ _ us hl => match us, hl with | [_, _], _ => rfl⟩
  have C__law_number : Cal l.prog w K mg base "_law_number" 2 ["_law_row", "_law_most"] (spI K 0 g_law_number) := ⟨f9, _, ok__law_number F9 B C__law_take, PySem.W.mg_of X G a9, k9, F9.binds fun _ _ _ _ _ _ us hl => match us, hl with | [_, _], _ => rfl⟩
  have C__law_polynomial : Cal l.prog w K mg base "_law_polynomial" 3 ["_law_row", "_law_most", "_law_terms"] (spI K 0 g_law_polynomial) := ⟨f10, _, ok__law_polynomial F10 B C__law_take C__law_number, PySem.W.mg_of X G a10, k10, F10.binds fun _ _ _ _ _ _ us hl => match us, hl with | [_, _, _], _ => rfl⟩
  have C__law_long : Cal l.prog w K mg base "_law_long" 3 ["_law_row", "_law_fewest", "_law_most"] (spI K 0 g_law_long) := ⟨f11, _, ok__law_long F11 B C__law_take C__law_number, PySem.W.mg_of X G a11, k11, F11.binds fun _ _ _ _ _ _ us hl => match us, hl with | [_, _, _], _ => rfl⟩
  have C__law_made : Cal l.prog w K mg base "_law_made" 1 ["_law_found"] (spR K g_law_made) := ⟨f12, _, ok__law_made F12 B, PySem.W.mg_of X G a12, k12, F12.binds fun _ _ _ _ _ _ us hl => match us, hl with | [_], _ => rfl⟩
  have C__law_due : Cal l.prog w K mg base "_law_due" 1 ["_law_terms"] (spR K g_law_due) := ⟨f13, _, ok__law_due F13 B, PySem.W.mg_of X G a13, k13, F13.binds fun _ _ _ _ _ _ us hl => match us, hl with | [_], _ => rfl⟩
  have C__law_product : Cal l.prog w K mg base "_law_product" 1 ["_law_one", "_law_other"] (spR K g_law_product) := ⟨f14, _, ok__law_product F14 B, PySem.W.mg_of X G a14, k14, F14.binds fun _ _ _ _ _ _ us hl => match us, hl with | [_, _], _ => rfl⟩
  have C__law_second : Cal l.prog w K mg base "_law_second" 4 ["_law_row", "_law_one"] (spI K 0 g_law_second) := ⟨f15, _, ok__law_second F15 B C__law_take C__law_polynomial, PySem.W.mg_of X G a15, k15, F15.binds fun _ _ _ _ _ _ us hl => match us, hl with | [_, _], _ => rfl⟩
  exact ok_law F16 B C_plus C_minus C_times C_lifted C_turned_about C__law_cell_at C__law_take C__law_number C__law_polynomial C__law_long C__law_made C__law_due C__law_product C__law_second
theorem law_sp {K : PySem.W.Frag} {H : Hp} {a : Addr} {ns : List Int} (hl : ns.length ≤ 63) (ho : Only H) (hS : SqL K H a (ns.map V.int)) : spR K g_law [.ref a] H (fun v _ => v = .bl true) fun _ _ _ => False := by
  have fz : FzL K H a (ns.map V.int) := by
    rcases hS with (h | h) | h
    · rcases ho a with z | ⟨o, xs, z⟩
      · rw [z] at h; cases h
      · rw [z] at h; cases h
    · exact .inl h
    · exact .inr h
  refine ⟨[.kls (ns.map .int)], [], fun d => d = .bl true, ?_, ⟨ns, rfl, hl, rfl⟩, fun v H' d F' fi hd => ?_⟩
  · exact .cons (F := []) (G := []) (.kls fz (Reps.ints ns)) .nil
  · subst hd
    exact rep_bl fi.rep
theorem walk {l : PySem.W.OpenLaw} {q : Program} {loose : List Str} {XP : (Str → Option Value) → Heap → Prop} {YP : World → Heap → Prop} {d : DefRec} {K : Params → PySem.W.Frag} (hn : l.most = some 63) (hdf : d.params.defaults = [])
    (hY : ∀ (w : World) (h : Heap), YP w h → (K w.params).In h)
    (F : ∀ (w : World) (mg : Str → Option Value) (fa : Addr) (h : Heap), (K w.params).In h → h.Ns mainGlobals mg → mg d.name = some (.ref fa) →
      ∃ fd : FuncData, (∀ (s : Shared) (u : Value), BindsTo s fd ⟨[u], []⟩ [("_law_script", u)]) ∧ ∀ base : Heap, (K w.params).In base → base.Ns mainGlobals mg → FnOk l.prog w (K w.params) mg base CX0 5 fa fd ["_law_script"] (spR (K w.params) g_law)) :
    PySem.W.WalkO q loose XP YP l.row.toRowW d [] (fun f vs => PySem.call f vs) :=
  L2.walk_of (n := 63) (k := 5) (x := "_law_script") (CX := fun _ => CX0) (sp := fun w => spR (K w.params) g_law) hn (by decide) hdf ⟨rfl, by decide, by decide⟩ hY F (fun _ _ a ns hl ho hS => law_sp hl ho hS) fun _ _ _ _ _ z => z
end K22
open PySem PySem.W PyProof.Rows
set_option maxRecDepth 100000 in
set_option maxHeartbeats 0 in
theorem PySem.Challenge.cw_tanglehouse_k22_polynomials_reckoned_holds : PySem.Challenge.rw_tanglehouse_k22_polynomials_reckoned.Holds := by
  w_on; o_law; k_head; (case hw => w_witness2)
  k_fill
  refine K22.walk (l := PySem.Challenge.rw_tanglehouse_k22_polynomials_reckoned) rfl rfl (fun w h Y => PySem.W.kIn_of Y) ?F
  case F =>
    intro w mg fa h KX G hmg
    refine' K22.all_mk KX G hmg ?a1 ?l1 ?c1 ?k1 ?a2 ?l2 ?c2 ?k2 ?a3 ?l3 ?c3 ?k3 ?a4 ?l4 ?c4 ?k4 ?a5 ?l5 ?c5 ?k5 ?a6 ?l6 ?c6 ?k6 ?a7 ?l7 ?c7 ?k7 ?a8 ?l8 ?c8 ?k8 ?a9 ?l9 ?c9 ?k9 ?a10 ?l10 ?c10 ?k10 ?a11 ?l11 ?c11 ?k11 ?a12 ?l12 ?c12 ?k12 ?a13 ?l13 ?c13 ?k13 ?a14 ?l14 ?c14 ?k14 ?a15 ?l15 ?c15 ?k15 ?a16 ?l16 ?c16 ?k16 ?z_bool ?z_int ?z_isinstance ?z_len ?z_list ?z_min ?z_range ?z_reversed ?z_sorted ?z_tuple
    (case a1 => k_is)
    (case l1 => k_is)
    (case c1 => k_is)
    (case k1 => k_is)
    (case a2 => k_is)
    (case l2 => k_is)
    (case c2 => k_is)
    (case k2 => k_is)
    (case a3 => k_is)
    (case l3 => k_is)
    (case c3 => k_is)
    (case k3 => k_is)
    (case a4 => k_is)
    (case l4 => k_is)
    (case c4 => k_is)
    (case k4 => k_is)
    (case a5 => k_is)
    (case l5 => k_is)
    (case c5 => k_is)
    (case k5 => k_is)
    (case a6 => k_is)
    (case l6 => k_is)
    (case c6 => k_is)
    (case k6 => k_is)
    (case a7 => k_is)
    (case l7 => k_is)
    (case c7 => k_is)
    (case k7 => k_is)
    (case a8 => k_is)
    (case l8 => k_is)
    (case c8 => k_is)
    (case k8 => k_is)
    (case a9 => k_is)
    (case l9 => k_is)
    (case c9 => k_is)
    (case k9 => k_is)
    (case a10 => k_is)
    (case l10 => k_is)
    (case c10 => k_is)
    (case k10 => k_is)
    (case a11 => k_is)
    (case l11 => k_is)
    (case c11 => k_is)
    (case k11 => k_is)
    (case a12 => k_is)
    (case l12 => k_is)
    (case c12 => k_is)
    (case k12 => k_is)
    (case a13 => k_is)
    (case l13 => k_is)
    (case c13 => k_is)
    (case k13 => k_is)
    (case a14 => k_is)
    (case l14 => k_is)
    (case c14 => k_is)
    (case k14 => k_is)
    (case a15 => k_is)
    (case l15 => k_is)
    (case c15 => k_is)
    (case k15 => k_is)
    (case a16 => k_is)
    (case l16 => k_is)
    (case c16 => k_is)
    (case k16 => k_is)
    (case z_bool => k_is)
    (case z_int => k_is)
    (case z_isinstance => k_is)
    (case z_len => k_is)
    (case z_list => k_is)
    (case z_min => k_is)
    (case z_range => k_is)
    (case z_reversed => k_is)
    (case z_sorted => k_is)
    (case z_tuple => k_is)
