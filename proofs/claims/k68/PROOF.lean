import PyProof.Rows.All
import Wide.All
import OpenK.AllK
import Wide.FinOn
import Lean
import PyProof.EqAt
import PyProof.EqKinds
import PyProof.TupleCall
import PyProof.EnumMake
import PyProof.EnumFor
import PyProof.Draws
import PyProof.DictWalks
import PyProof.ListRange
import PyProof.ZipIter
import PyProof.Rows.SortWalk
import PyProof.Rows.SumAny
import PyProof.TupleIter
import PyProof.MeetsStr2
import PyProof.StrWalks
import Wide.Txt
import PyProof.Rows.MinMaxN
import PyProof.ExcClass2
import PyProof.NsDelKeeps
import PyProof.ExcArgsOwn
import PyProof.ExcAttrAll.ValueError
import PyProof.ExcBaseAll.ValueError
import PySem.Challenge.RW_tanglehouse_k68_steps_of_lists
set_option Elab.async false
set_option linter.all false
set_option maxRecDepth 100000
namespace L2
open PySem PySem.Spec PyProof.Rows
noncomputable abbrev Key := Sum Int Str
noncomputable def keyIs : Key → Value → Bool
  | .inl k, v => Value.isInt k v
  | .inr x, v => Value.isStrOf x v
noncomputable def keyH (w : World) : Key → Int
  | .inl k => hashInt k
  | .inr x => hashStr w x
theorem keyIs_shape : ∀ {k : Key} {v : Value}, keyIs k v = true → (∃ i t, k = Sum.inl i ∧ v = Value.int i t) ∨ (∃ x t, k = Sum.inr x ∧ v = Value.str x t)
  | .inl i, v, h => by
    obtain ⟨t, e⟩ := Value.isInt_shape (k := i) (v := v) h
    exact .inl ⟨i, t, rfl, e⟩
  | .inr x, v, h => by
    obtain ⟨t, e⟩ := Value.isStrOf_shape (x := x) (v := v) h
    exact .inr ⟨x, t, rfl, e⟩
theorem keyIs_int (i : Int) (t : Tok) : keyIs (.inl i) (.int i t) = true := by simp [keyIs, Value.isInt]
theorem keyIs_str (x : Str) (t : Tok) : keyIs (.inr x) (.str x t) = true := by simp [keyIs, Value.isStrOf]
theorem key_ll (a b : Int) : decide ((Sum.inl a : Key) = Sum.inl b) = (a == b) := by
  by_cases e : a = b
  · subst e; simp
  · have h : ¬ (Sum.inl a : Key) = Sum.inl b := fun q => e (Sum.inl.inj q)
    rw [decide_eq_false h]
    exact (beq_eq_false_iff_ne.mpr e).symm
theorem key_rr (a b : Str) : decide ((Sum.inr a : Key) = Sum.inr b) = decide (a = b) := by
  by_cases e : a = b
  · subst e; simp
  · have h : ¬ (Sum.inr a : Key) = Sum.inr b := fun q => e (Sum.inr.inj q)
    rw [decide_eq_false h, decide_eq_false e]
theorem key_lr (a : Int) (b : Str) : decide ((Sum.inl a : Key) = Sum.inr b) = false := decide_eq_false (fun q => nomatch q)
theorem key_rl (a : Str) (b : Int) : decide ((Sum.inr a : Key) = Sum.inl b) = false := decide_eq_false (fun q => nomatch q)
noncomputable def mixKind (prog : Program) (w : World) : PySem.KeyKind prog w Key where
  is := keyIs
  hash := keyH w
  inj := fun v a b ha hb => by
    rcases keyIs_shape ha with ⟨i, t, rfl, rfl⟩ | ⟨x, t, rfl, rfl⟩
    · rcases keyIs_shape hb with ⟨j, u, rfl, e⟩ | ⟨y, u, rfl, e⟩
      · injection e with e1 _; rw [e1]
      · exact nomatch e
    · rcases keyIs_shape hb with ⟨j, u, rfl, e⟩ | ⟨y, u, rfl, e⟩
      · exact nomatch e
      · injection e with e1 _; rw [e1]
  byValue := fun k v h => by
    rcases keyIs_shape h with ⟨i, t, rfl, rfl⟩ | ⟨x, t, rfl, rfl⟩ <;> rfl
  pyHash := fun hv h => by
    rcases keyIs_shape hv with ⟨i, t, rfl, rfl⟩ | ⟨x, t, rfl, rfl⟩
    · exact wpAny_pyHash_int h
    · exact wpAny_pyHash_str h
  eqBool := fun hu hv h => by
    rcases keyIs_shape hu with ⟨i, t, rfl, rfl⟩ | ⟨x, t, rfl, rfl⟩
    · rcases keyIs_shape hv with ⟨j, u, rfl, rfl⟩ | ⟨y, u, rfl, rfl⟩
      · rw [key_ll] at h; exact wpAny_eqBool_int h
      · rw [key_lr] at h; exact SeqAt.EqAt.int_str i t y u _ _ _ _ h
    · rcases keyIs_shape hv with ⟨j, u, rfl, rfl⟩ | ⟨y, u, rfl, rfl⟩
      · rw [key_rl] at h; exact SeqAt.EqAt.str_int x t j u _ _ _ _ h
      · rw [key_rr] at h; exact wpAny_eqBool_str h
  «strs» := fun k x t v h => by
    rcases keyIs_shape h with ⟨i, u, rfl, e⟩ | ⟨y, u, rfl, e⟩
    · exact nomatch e
    · injection e with e1 _
      subst e1
      cases v <;> rfl
theorem mixKind_int (prog : Program) (w : World) (i : Int) (t : Tok) : (mixKind prog w).is (.inl i) (.int i t) = true := keyIs_int i t
theorem mixKind_str (prog : Program) (w : World) (x : Str) (t : Tok) : (mixKind prog w).is (.inr x) (.str x t) = true := keyIs_str x t
end L2
namespace L2
open PySem PySem.Spec PyProof.Rows
inductive V where
  | non | bl (b : Bool) | int (i : Int) | str (x : Str) | byt (b : Array UInt8) | flt (b : UInt64) | ref (a : Addr) | ty (n : String)
  deriving DecidableEq
noncomputable def RelV : V → Value → Prop
  | .non, u => u = Value.none
  | .bl b, u => u = Value.bool b
  | .int i, u => ∃ t, u = Value.int i t
  | .str x, u => ∃ t, u = Value.str x t
  | .byt b, u => ∃ t, u = Value.bytes b t
  | .flt b, u => ∃ t, u = Value.float b t
  | .ref a, u => u = Value.ref a
  | .ty n, u => u = Value.type n
noncomputable abbrev Vals : List V → List Value → Prop := Paired RelV
theorem Vals.length {xs : List V} {us : List Value} (r : Vals xs us) : xs.length = us.length := Paired.length r
theorem Vals.get : ∀ {xs : List V} {us : List Value} {i : Nat} {x : V}, Vals xs us → xs[i]? = some x → ∃ u, us[i]? = some u ∧ RelV x u
  | _, _, _, _, .nil, e => by simp at e
  | _, _, 0, _, .cons r _, e => by simp at e; subst e; exact ⟨_, rfl, r⟩
  | _, _, i + 1, x, .cons _ t, e => by
    obtain ⟨u, h1, h2⟩ := Vals.get (i := i) (x := x) t (by simpa using e)
    exact ⟨u, by simpa using h1, h2⟩
theorem Vals.set {x : V} {u : Value} (r : RelV x u) : ∀ {xs : List V} {us : List Value} (i : Nat), Vals xs us → Vals (xs.set i x) (us.set i u)
  | _, _, _, .nil => .nil
  | _, _, 0, .cons _ t => .cons r t
  | _, _, i + 1, .cons q t => .cons q (Vals.set r i t)
theorem Vals.append : ∀ {xs ys : List V} {us ws : List Value}, Vals xs us → Vals ys ws → Vals (xs ++ ys) (us ++ ws)
  | _, _, _, _, .nil, s => s
  | _, _, _, _, .cons r t, s => .cons r (Vals.append t s)
theorem Vals.take : ∀ {xs : List V} {us : List Value} (n : Nat), Vals xs us → Vals (xs.take n) (us.take n)
  | _, _, 0, _ => .nil
  | _, _, _ + 1, .nil => .nil
  | _, _, n + 1, .cons r t => .cons r (Vals.take n t)
theorem Vals.drop : ∀ {xs : List V} {us : List Value} (n : Nat), Vals xs us → Vals (xs.drop n) (us.drop n)
  | _, _, 0, r => r
  | _, _, _ + 1, .nil => .nil
  | _, _, n + 1, .cons _ t => Vals.drop n t
theorem Vals.none_of : ∀ {xs : List V} {us : List Value} {i : Nat}, Vals xs us → xs[i]? = none → us[i]? = none := fun {xs us i} r e => by
  have h1 := r.length
  have h2 : xs.length ≤ i := List.getElem?_eq_none_iff.mp e
  exact List.getElem?_eq_none_iff.mpr (by omega)
noncomputable def RelO : Option V → Option Value → Prop
  | some v, some u => RelV v u
  | none, none => True
  | _, _ => False
noncomputable def KV {κ : Type} : List (κ × V) → List (κ × Value) → Prop := Paired fun (p : κ × V) (q : κ × Value) => p.1 = q.1 ∧ RelV p.2 q.2
noncomputable def kV : Key → V
  | .inl i => .int i
  | .inr x => .str x
inductive HO where
  /-- a list -/
  | lst (xs : List V)
  /-- a tuple (never changes) -/
  | tup (xs : List V)
  /-- a dict whose keys are ints and texts; one whose keys are tuples of ints and texts (the empty one is both) -/
  | dK (kvs : List (Key × V)) | dT (kvs : List (List Key × V))
  /-- a set of ints: its members, its size -/
  | set (S : Int → Bool) (n : Nat)
  /-- an instance of the class at C, its dict at dx, its attributes -/
  | ins (C dx : Addr) (fs : List (Str × V))
  /-- the dict of the instance at x -/
  | own (x : Addr)
  /-- the dict of an exception -/
  | xd (fs : List (Str × V))
  /-- a bound method, f of x -/
  | met (f x : Addr)
  /-- a range object lo, lo + 1, .. below hi -/
  | rng (lo hi : Int)
  /-- a thing that is known to the object (the script; a dict while a loop walks it): read, never written while it is so -/
  | frz (o : Obj) (u : HO)
  /-- a code object's table -/
  | tbl (ps : Array Value)
  /-- any other thing, by what is true of its one object (a def of one's own: SetO a S n := HO.ext fun h => ..) -/
  | ext (φ : Heap → Prop)
noncomputable abbrev Hp := Addr → Option HO
noncomputable def upd (H : Hp) (a : Addr) (o : HO) : Hp := fun b => if b = a then some o else H b
theorem upd_same {H : Hp} {a : Addr} {o : HO} : upd H a o a = some o := by unfold upd; rw [if_pos rfl]
theorem upd_ne {H : Hp} {a b : Addr} {o : HO} (h : b ≠ a) : upd H a o b = H b := by unfold upd; rw [if_neg h]
theorem ne_of {H : Hp} {a b : Addr} {o u : HO} (h : H a = some o) (h' : H b = some u) (d : o ≠ u) : a ≠ b := by
  intro e; subst e; rw [h] at h'; exact d (Option.some.inj h')
theorem ne_of_none {H : Hp} {a b : Addr} {o : HO} (h : H a = some o) (h' : H b = none) : a ≠ b := by
  intro e; subst e; rw [h] at h'; cases h'
section
variable (P : Program) (w : World)
noncomputable def ObjOk (H : Hp) (h : Heap) (a : Addr) : HO → Prop
  | .lst xs => xs.length ≤ sizeLine ∧ ∃ (its : List Value) (n : Nat), Vals xs its ∧ h.get? a = some { cls := .type "list", data := .seq its.toArray n }
  | .tup xs => xs.length ≤ sizeLine ∧ ∃ its : List Value, Vals xs its ∧ IsTup h a its.toArray
  | .dK kvs => kvs.length ≤ sizeLine ∧ (a == sysModules) = false ∧ ∃ vs, KV kvs vs ∧ h.DictOf (mixKind P w) a vs
  | .dT kvs => kvs.length ≤ sizeLine ∧ (a == sysModules) = false ∧ ∃ xs : List (List Key × Addr × Value),
      Paired (fun (p : List Key × V) (q : List Key × Addr × Value) => p.1 = q.1 ∧ H q.2.1 = some (.tup (p.1.map kV)) ∧ RelV p.2 q.2.2) kvs xs ∧
      ∃ o es ep, h.get? a = some o ∧ o.ExactDict ∧ o.data = .dict es ep ∧ es.toList = xs.map (entryOfKey (tupleKind (mixKind P w))) ∧ (xs.map (·.1)).Nodup
  | .set S n => h.SetOf (intKind P w) a S n
  | .ins C dx fs => H dx = some (.own a) ∧ fs.length ≤ 1000 ∧ dx ≠ a ∧ h.get? a = some (PySem.W.instObj C dx) ∧
      ∃ mA, h.Ns1 dx mA ∧ (∀ f, RelO (fs.lookup f) (mA f)) ∧ PySem.Within mA (fs.map (·.1))
  | .own _ => ∃ o, h.get? a = some o
  | .xd fs => ∃ mA, h.Ns1 a mA ∧ ∀ f, RelO (fs.lookup f) (mA f)
  | .rng lo hi => ∃ t u v, h.get? a = some { cls := .type "range", data := .fields #[.int lo t, .int hi u, .int 1 v] }
  | .frz o u => h.get? a = some o ∧ ObjOk H h a u
  | .tbl ps => ∃ ts : Array Value, h.get? a = some { cls := .none, data := .fields ts } ∧ (ts = #[] ∨ ∃ (b : Addr) (oc : Obj) (u : HO) (vs : Array Value) (t : Tok) (q : Str) (t' : Tok), ts = #[ps.getD 0 .none, ps.getD 1 .none, .ref b] ∧ H b = some (.frz oc u) ∧ oc.data = .fields vs ∧ ps.getD 2 .none = .str q t' ∧ vs[1]? = some (.str q t))
  | .met f x => h.get? a = some (PySem.W.methodObj (.ref f) (.ref x))
  | .ext φ => φ h ∧ (∃ o, h.get? a = some o) ∧ ∀ h1 h2 : Heap, φ h1 → (∀ o, h1.get? a = some o → h2.get? a = some o) → φ h2
noncomputable def HOk (H : Hp) (h : Heap) : Prop := ∀ a o, H a = some o → ObjOk P w H h a o
end
section
variable {P : Program} {w : World} {H H' : Hp} {h h' : Heap} {a : Addr} {o : HO}
theorem ObjOk.lt (x : ObjOk P w H h a o) : a < h.objs.size := by
  cases o with
  | lst xs => obtain ⟨_, _, _, _, e⟩ := x; exact Heap.lt_size e
  | tup xs => obtain ⟨_, _, _, p⟩ := x; exact p.lt
  | dK kvs => obtain ⟨_, _, _, _, o, _, _, e, _⟩ := x; exact Heap.lt_size e
  | dT kvs => obtain ⟨_, _, _, _, o, _, _, e, _⟩ := x; exact Heap.lt_size e
  | set S n => obtain ⟨o, _, _, _, e, _⟩ := x; exact Heap.lt_size e
  | ins C dx fs => obtain ⟨_, _, _, e, _⟩ := x; exact Heap.lt_size e
  | own y => obtain ⟨_, e⟩ := x; exact Heap.lt_size e
  | xd fs => obtain ⟨_, ⟨_, _, _, e, _⟩, _⟩ := x; exact Heap.lt_size e
  | rng lo hi => obtain ⟨_, _, _, e⟩ := x; exact Heap.lt_size e
  | frz ob u => obtain ⟨e, _⟩ := x; exact Heap.lt_size e
  | tbl ps => obtain ⟨_, e, _⟩ := x; exact Heap.lt_size e
  | met f y => exact Heap.lt_size (show h.get? a = some _ from x)
  | ext φ => obtain ⟨_, ⟨_, e⟩, _⟩ := x; exact Heap.lt_size e
theorem Paired.mapP {α β : Type} {F G : α → β → Prop} : ∀ {l₁ : List α} {l₂ : List β}, Paired F l₁ l₂ → (∀ a b, F a b → G a b) → Paired G l₁ l₂
  | _, _, .nil, _ => .nil
  | _, _, .cons r t, f => .cons (f _ _ r) (Paired.mapP t f)
theorem ObjOk.stay (x : ObjOk P w H h a o) (k : ∀ b u, (b = a ∨ H b = some (.own a)) → h.get? b = some u → h'.get? b = some u)
    (ho : ∀ b, H b = some (.own a) → H' b = some (.own a)) (ht : ∀ b xs, H b = some (.tup xs) → H' b = some (.tup xs)) (hf : ∀ b u v vs, H b = some (.frz u v) → u.data = .fields vs → H' b = some (.frz u v) := by exact fun _ _ _ _ q _ => q) : ObjOk P w H' h' a o := by
  induction o with
  | lst xs => obtain ⟨z, its, n, r, e⟩ := x; exact ⟨z, its, n, r, k _ _ (.inl rfl) e⟩
  | tup xs => obtain ⟨z, its, r, ob, e, c⟩ := x; exact ⟨z, its, r, ob, k _ _ (.inl rfl) e, c⟩
  | dK kvs => obtain ⟨z, y, vs, r, ob, es, ep, e, c⟩ := x; exact ⟨z, y, vs, r, ob, es, ep, k _ _ (.inl rfl) e, c⟩
  | dT kvs =>
    obtain ⟨z, y, xs, r, ob, es, ep, e, c⟩ := x
    exact ⟨z, y, xs, Paired.mapP r fun p q z => ⟨z.1, ht _ _ z.2.1, z.2.2⟩, ob, es, ep, k _ _ (.inl rfl) e, c⟩
  | set S n => obtain ⟨ob, es, ep, t, e, c⟩ := x; exact ⟨ob, es, ep, t, k _ _ (.inl rfl) e, c⟩
  | ins C dx fs =>
    obtain ⟨d, z, ne, e, mA, ⟨od, es, ep, e2, c⟩, r⟩ := x
    exact ⟨ho _ d, z, ne, k _ _ (.inl rfl) e, mA, ⟨od, es, ep, k _ _ (.inr d) e2, c⟩, r⟩
  | own y => obtain ⟨ob, e⟩ := x; exact ⟨ob, k _ _ (.inl rfl) e⟩
  | xd fs => obtain ⟨mA, ⟨od, es, ep, e, c⟩, r⟩ := x; exact ⟨mA, ⟨od, es, ep, k _ _ (.inl rfl) e, c⟩, r⟩
  | rng lo hi => obtain ⟨t, u, v, e⟩ := x; exact ⟨t, u, v, k _ _ (.inl rfl) e⟩
  | frz ob u ih => obtain ⟨e, q⟩ := x; exact ⟨k _ _ (.inl rfl) e, ih q⟩
  | tbl ps =>
    obtain ⟨ts, e, r⟩ := x
    exact ⟨ts, k _ _ (.inl rfl) e, r.imp id fun ⟨b, oc, u, vs, t, q, t', z1, z2, z3⟩ => ⟨b, oc, u, vs, t, q, t', z1, hf _ _ _ _ z2 z3.1, z3⟩⟩
  | met f y =>
    have e : h.get? a = some (PySem.W.methodObj (.ref f) (.ref y)) := x
    show h'.get? a = some (PySem.W.methodObj (.ref f) (.ref y))
    exact k a _ (.inl rfl) e
  | ext φ => obtain ⟨p, ⟨o, e⟩, st⟩ := x; exact ⟨st _ _ p fun o q => k _ _ (.inl rfl) q, ⟨o, k _ _ (.inl rfl) e⟩, st⟩
theorem HOk.lt (x : HOk P w H h) (e : H a = some o) : a < h.objs.size := (x a o e).lt
theorem HOk.fresh (x : HOk P w H h) (e : h.objs.size ≤ a) : H a = none := by
  cases q : H a with
  | none => rfl
  | some u => exact absurd (Nat.lt_of_lt_of_le (x.lt q) e) (Nat.lt_irrefl _)
theorem HOk.kept (x : HOk P w H h) (k : ∀ b u, h.get? b = some u → h'.get? b = some u) : HOk P w H h' := fun a o e =>
  (x a o e).stay (fun b u _ q => k b u q) (fun _ q => q) fun _ _ q => q
theorem HOk.laid (x : HOk P w H h) (k : ∀ b u, h.get? b = some u → h'.get? b = some u) (hp : h.objs.size ≤ a) (new : ObjOk P w (upd H a o) h' a o) : HOk P w (upd H a o) h' := fun b u e => by
  have hn := x.fresh hp
  by_cases hb : b = a
  · subst hb; rw [upd_same] at e; cases e; exact new
  · rw [upd_ne hb] at e
    exact (x b u e).stay (fun c v _ q => k c v q) (fun c q => by rw [upd_ne (ne_of_none q hn)]; exact q) (fun c xs q => by rw [upd_ne (ne_of_none q hn)]; exact q) fun c _ _ _ q _ => by rw [upd_ne (ne_of_none q hn)]; exact q
end
noncomputable def Rd (H : Hp) (a : Addr) (u : HO) : Prop := H a = some u ∨ ∃ o, H a = some (.frz o u)
theorem Rd.of {H : Hp} {a : Addr} {u : HO} (h : H a = some u) : Rd H a u := .inl h
theorem Rd.ok {P : Program} {w : World} {H : Hp} {h : Heap} {a : Addr} {u : HO} (r : Rd H a u) (x : HOk P w H h) : ObjOk P w H h a u := by
  rcases r with r | ⟨o, r⟩
  · exact x a u r
  · obtain ⟨_, q⟩ := x a _ r
    exact q
noncomputable def Mut : Option HO → Prop
  | some (.lst _) => True
  | some (.dK _) => True
  | some (.dT _) => True
  | some (.set _ _) => True
  | some (.ins _ _ _) => True
  | some (.ext _) => True
  | _ => False
section
variable {P : Program} {w : World} {H : Hp} {h h' : Heap} {x e : Addr} {o' : HO}
theorem HOk.write (ok : HOk P w H h) (mu : Mut (H x)) (he : e = x ∨ H e = some (.own x)) (k : ∀ b u, b ≠ e → h.get? b = some u → h'.get? b = some u) (heo : ∃ u, h'.get? e = some u)
    (new : ObjOk P w (upd H x o') h' x o') : HOk P w (upd H x o') h' := fun b u q => by
  have nown : ∀ c y, H c = some (.own y) → c ≠ x := fun c y r z => by subst z; rw [r] at mu; exact mu
  have ntup : ∀ c xs, H c = some (.tup xs) → c ≠ x := fun c xs r z => by subst z; rw [r] at mu; exact mu
  have nfrz : ∀ c o v, H c = some (.frz o v) → c ≠ x := fun c o v r z => by subst z; rw [r] at mu; exact mu
  by_cases hb : b = x
  · subst hb; rw [upd_same] at q; cases q; exact new
  · rw [upd_ne hb] at q
    by_cases hbe : b = e
    · have q' : H b = some (.own x) := by
        rcases he with z | z
        · exact absurd (hbe.trans z) hb
        · rw [hbe]; exact z
      rw [q] at q'; cases q'
      obtain ⟨v, hv⟩ := heo
      exact ⟨v, by rw [hbe]; exact hv⟩
    · refine (ok b u q).stay (fun c v hc r => k c v ?_ r) (fun c r => by rw [upd_ne (nown c b r)]; exact r) (fun c xs r => by rw [upd_ne (ntup c xs r)]; exact r) fun c o v _ r _ => by rw [upd_ne (nfrz c o v r)]; exact r
      rcases hc with rfl | hc
      · exact hbe
      · rintro rfl
        rcases he with z | z
        · exact nown c b hc z
        · rw [hc] at z; cases z; exact hb rfl
end
structure Un (fs ex : List Addr) (H H' : Hp) (h h' : Heap) : Prop where
  keep : ∀ b o, h.get? b = some o → H b = none → b ∉ fs → b ∉ ex → h'.get? b = some o
  slot : ∀ b o, h.get? b = some o → H b = none → b ∈ fs → b ∉ ex → ∃ sl, h'.get? b = some { o with slots := sl }
  free : ∀ b o, h.get? b = some o → H b = none → b ∉ ex → H' b = none
  there : ∀ b o, h.get? b = some o → b ∉ ex → ∃ o', h'.get? b = some o'
  tups : ∀ b xs, H b = some (.tup xs) → H' b = some (.tup xs)
  frzs : ∀ b o u, H b = some (.frz o u) → H' b = some (.frz o u)
  tbls : ∀ b ps, H b = some (.tbl ps) → ∃ more, H' b = some (.tbl (ps ++ more))
section
variable {fs fs' ex ex' : List Addr} {H H1 H2 : Hp} {h h1 h2 h' : Heap} {a x e : Addr} {o : HO}
theorem Un.any (u : Un fs ex H H1 h h1) {b : Addr} {ob : Obj} (q : h.get? b = some ob) (n : H b = none) (hx : b ∉ ex) : ∃ sl, h1.get? b = some { ob with slots := sl } := by
  by_cases hb : b ∈ fs
  · exact u.slot b ob q n hb hx
  · exact ⟨ob.slots, u.keep b ob q n hb hx⟩
theorem Un.trans (a : Un fs ex H H1 h h1) (b : Un fs ex H1 H2 h1 h2) : Un fs ex H H2 h h2 where
  keep := fun c ob q n hc hx => b.keep c ob (a.keep c ob q n hc hx) (a.free c ob q n hx) hc hx
  slot := fun c ob q n hc hx => by
    obtain ⟨sl, e1⟩ := a.slot c ob q n hc hx
    obtain ⟨sl', e2⟩ := b.slot c _ e1 (a.free c ob q n hx) hc hx
    exact ⟨sl', e2⟩
  free := fun c ob q n hx => by
    obtain ⟨o', e1⟩ := a.there c ob q hx
    exact b.free c o' e1 (a.free c ob q n hx) hx
  there := fun c ob q hx => by
    obtain ⟨o', e1⟩ := a.there c ob q hx
    exact b.there c o' e1 hx
  tups := fun c xs q => b.tups c xs (a.tups c xs q)
  frzs := fun c ob xs q => b.frzs c ob xs (a.frzs c ob xs q)
  tbls := fun c ps q => by
    obtain ⟨m1, e1⟩ := a.tbls c ps q
    obtain ⟨m2, e2⟩ := b.tbls c _ e1
    exact ⟨m1 ++ m2, by rw [e2, Array.append_assoc]⟩
theorem Un.kept (k : ∀ b u, h.get? b = some u → h'.get? b = some u) : Un fs ex H H h h' :=
  ⟨fun b ob q _ _ _ => k b ob q, fun b ob q _ _ _ => ⟨ob.slots, k b ob q⟩, fun _ _ _ n _ => n, fun b ob q _ => ⟨ob, k b ob q⟩, fun _ _ q => q, fun _ _ _ q => q, fun _ ps q => ⟨#[], by rw [q]; simp⟩⟩
theorem Un.refl : Un fs ex H H h h := Un.kept fun _ _ q => q
theorem Un.laid (k : ∀ b u, h.get? b = some u → h'.get? b = some u) (hp : h.objs.size ≤ a) (hn : H a = none) : Un fs ex H (upd H a o) h h' where
  keep := fun b u q _ _ _ => k b u q
  slot := fun b u q _ _ _ => ⟨u.slots, k b u q⟩
  free := fun b u q n _ => by rw [upd_ne (Nat.ne_of_lt (Nat.lt_of_lt_of_le (Heap.lt_size q) hp))]; exact n
  there := fun b u q _ => ⟨u, k b u q⟩
  tups := fun b xs q => by rw [upd_ne (ne_of_none q hn)]; exact q
  frzs := fun b u xs q => by rw [upd_ne (ne_of_none q hn)]; exact q
  tbls := fun b ps q => ⟨#[], by rw [upd_ne (ne_of_none q hn), q]; simp⟩
theorem Un.write (mu : Mut (H x)) (he : e = x ∨ H e = some (.own x)) (k : ∀ b u, b ≠ e → h.get? b = some u → h'.get? b = some u) (heo : ∃ u, h'.get? e = some u) : Un fs ex H (upd H x o) h h' := by
  have hx : ∀ b, H b = none → b ≠ x := fun b n z => by subst z; rw [n] at mu; exact mu
  have hb : ∀ b, H b = none → b ≠ e := fun b n z => by
    subst z
    rcases he with r | r
    · exact hx b n r
    · rw [n] at r; cases r
  have hm : ∀ b u, H b = some u → ¬ Mut (some u) → b ≠ x := fun b u q nm z => by subst z; rw [q] at mu; exact nm mu
  refine ⟨fun b u q n _ _ => k b u (hb b n) q, fun b u q n _ _ => ⟨u.slots, k b u (hb b n) q⟩, fun b u q n _ => by rw [upd_ne (hx b n)]; exact n, fun b u q _ => ?_,
    fun b xs q => by rw [upd_ne (hm b _ q fun z => z)]; exact q, fun b u xs q => by rw [upd_ne (hm b _ q fun z => z)]; exact q, fun b ps q => ⟨#[], by rw [upd_ne (hm b _ q fun z => z), q]; simp⟩⟩
  by_cases hbe : b = e
  · subst hbe; exact heo
  · exact ⟨u, k b u hbe q⟩
theorem Un.mono (u : Un fs ex H H1 h h1) (hs : ∀ b ∈ fs, b ∈ fs') (hx : ∀ b ∈ ex, b ∈ ex') : Un fs' ex' H H1 h h1 :=
  ⟨fun b ob q n hb he => u.keep b ob q n (fun z => hb (hs b z)) fun z => he (hx b z), fun _ _ q n _ he => u.any q n fun z => he (hx _ z), fun b ob q n he => u.free b ob q n fun z => he (hx b z), fun b ob q he => u.there b ob q fun z => he (hx b z), u.tups, u.frzs, u.tbls⟩
end
noncomputable def trk (h : Heap) (H : Hp) : List Addr := (List.range h.objs.size).filter fun a => (H a).isSome
noncomputable def hidT (h : Heap) (H : Hp) : Heap := PySem.W.hideAll h (trk h H)
theorem hidT_size (h : Heap) (H : Hp) : (hidT h H).objs.size = h.objs.size := PySem.W.hideAll_size _ _
theorem hidT_get {h : Heap} {H : Hp} {b : Addr} {o : Obj} (e : h.get? b = some o) (n : H b = none) : (hidT h H).get? b = some o :=
  PySem.W.hideAll_get _ e fun hm => by
    have q : (H b).isSome = true := (List.mem_filter.mp hm).2
    rw [n] at q; simp at q
theorem of_hidT {h : Heap} {H : Hp} {b : Addr} {o : Obj} (e : (hidT h H).get? b = some o) : h.get? b = some o ∧ H b = none := by
  have e' : h.get? b = some o := PySem.W.of_hideAll (trk h H) e
  refine ⟨e', ?_⟩
  cases q : H b with
  | none => rfl
  | some x =>
    have hm : b ∈ trk h H := List.mem_filter.mpr ⟨List.mem_range.mpr (Heap.lt_size e'), by simp [q]⟩
    have z : (hidT h H).get? b = none := PySem.W.hideAll_none (trk h H) hm
    rw [z] at e; cases e
noncomputable def allNews (g h : Heap) (L : Addr) : List (Addr × Obj) := (List.range h.objs.size).filterMap fun a => if a = L ∨ (g.get? a).isSome = true then none else (h.get? a).map fun o => (a, o)
noncomputable def rest (g h : Heap) (L d : Addr) : List (Addr × Obj) := (allNews g h L).filter fun p => decide (p.1 ≠ d)
end L2
namespace L2
open PySem PySem.Spec PyProof.Rows
structure Mod (K : PySem.W.Frag) (mg : Str → Option Value) (base : Heap) : Prop where
  kin : K.In base
  glob : base.Ns mainGlobals mg
  blt : ∃ mb, base.Ns builtinsNs mb ∧ ∀ x : Str, x ≠ "__name__" → mb x = bootBuiltins x
  nolimit : base.NoLimit
structure Cx where
  prog : Program
  w : World
  K : PySem.W.Frag
  mg : Str → Option Value
  base : Heap
  A : Around
  N : List Str
  s₀ : Shared
  H₀ : Hp
  env : Env
  outer : List Env
  stack : List Env
  ex : List Addr
  fn : Str → Bool
  calm : Bool
  pn : List (Addr × Obj)
  xe : Value → Shared → Prop
noncomputable def frs (l : List Env) : List Addr := l.filterMap (·.frame)
noncomputable abbrev Cx.fs (X : Cx) : List Addr := frs X.outer
noncomputable def Vis (sc : Scope) (x : Str) : Prop := sc.names.lookup x = some .local ∨ sc.names.lookup x = some .cell ∨ sc.names.lookup x = some .free
noncomputable def Loc (sc : Scope) (x : Str) : Prop := sc.names.lookup x = some .local ∨ sc.names.lookup x = some .cell
noncomputable def Look (env : Env) (h : Heap) (m : Str → Option Value) (x : Str) (u : Value) : Prop :=
  (env.kindOf x = some .local ∧ m x = some u) ∨ ((env.kindOf x = some .cell ∨ env.kindOf x = some .free) ∧ ∃ c, env.cells.lookup x = some c ∧ h.IsCell c (some u))
structure Cx.Ok (X : Cx) : Prop where
  mod : Mod X.K X.mg X.base
  kind : X.env.scope.kind = .function
  glob : X.env.globals = mainGlobals
  blt : X.env.builtins = builtinsNs
  above : X.s₀.heap.objs.size ≤ X.env.locals
  inj : ∀ x y c, X.env.cells.lookup x = some c → X.env.cells.lookup y = some c → x = y
  has : ∀ x, (X.env.kindOf x = some .cell ∨ X.env.kindOf x = some .free) → ∃ c, X.env.cells.lookup x = some c
  cab : ∀ x c, X.fn x = true → X.env.cells.lookup x = some c → X.s₀.heap.objs.size ≤ c
  hd : X.calm = true → X.A.handled = none
  frames : X.A.frames = some X.stack
  stk : X.stack = X.outer ∨ (X.stack = X.env :: X.outer ∧ X.env.frame = some X.env.locals)
  exf : ∀ b ∈ X.ex, b ≠ X.env.locals ∧ ∀ x c, X.env.cells.lookup x = some c → c ≠ b
  bs : ∀ b o, X.base.get? b = some o → X.s₀.heap.get? b = some o ∧ X.H₀ b = none
  bsz : X.base.objs.size ≤ X.s₀.heap.objs.size
  noex : ∀ b o, X.base.get? b = some o → b ∉ X.ex
  exfs : ∀ b ∈ X.ex, b ∉ X.fs
  funs : X.s₀.heap.FunFrames X.base X.outer
  frf : ∀ b ∈ X.fs, X.H₀ b = none
structure Inv (X : Cx) (pins : List (Addr × Obj)) (σ : List (Option V)) (H : Hp) (s : Shared) : Prop where
  ok : X.Ok
  os : s.os = X.s₀.os
  bare : AllBare s.gens
  base : Un X.fs X.ex X.H₀ H X.s₀.heap s.heap
  loc : ∃ m, s.heap.Ns X.env.locals m ∧ ∀ (i : Nat) (x : Str) (v : V), X.N[i]? = some x → σ[i]? = some (some v) → Vis X.env.scope x → ∃ u, RelV v u ∧ Look X.env s.heap m x u
  cell : ∀ x c, X.env.cells.lookup x = some c → ∃ v, s.heap.IsCell c v
  free : H X.env.locals = none
  freeC : ∀ x c, X.env.cells.lookup x = some c → H c = none
  pin : ∀ p ∈ X.pn ++ pins, s.heap.get? p.1 = some p.2 ∧ H p.1 = none ∧ p.1 ≠ X.env.locals ∧ p.1 ∉ X.fs ∧ ∀ v, p.2.data ≠ .cell v
  hok : HOk X.prog X.w H s.heap
  len : σ.length = X.N.length
section
variable {X : Cx} {pins : List (Addr × Obj)} {σ : List (Option V)} {H H' : Hp} {s : Shared} {h' : Heap}
theorem Cx.Ok.nofr (ok : X.Ok) {b : Addr} {o : Obj} (e : X.base.get? b = some o) : b ∉ X.fs := fun hb => by
  have := (ok.funs.mem hb).1
  rw [e] at this; cases this
theorem Inv.bs (I : Inv X pins σ H s) : ∀ b o, X.base.get? b = some o → s.heap.get? b = some o ∧ H b = none := fun b o e =>
  ⟨I.base.keep b o (I.ok.bs b o e).1 (I.ok.bs b o e).2 (I.ok.nofr e) (I.ok.noex b o e), I.base.free b o (I.ok.bs b o e).1 (I.ok.bs b o e).2 (I.ok.noex b o e)⟩
theorem Inv.bk (I : Inv X pins σ H s) : ∀ b o, X.base.get? b = some o → s.heap.get? b = some o := fun b o e => (I.bs b o e).1
theorem Inv.mod (I : Inv X pins σ H s) : Mod X.K X.mg X.base := I.ok.mod
theorem Inv.kIn (I : Inv X pins σ H s) : X.K.In s.heap := I.ok.mod.kin.keeps I.bk
theorem Inv.nolimit (I : Inv X pins σ H s) : s.heap.NoLimit := I.ok.mod.nolimit.keeps I.bk
theorem Inv.fr (I : Inv X pins σ H s) : ∃ m, Fr X.base X.env.locals s.heap m :=
  let ⟨m, hn, _⟩ := I.loc
  ⟨m, hn, I.bk, Nat.le_trans I.ok.bsz I.ok.above⟩
theorem Inv.lt (I : Inv X pins σ H s) : X.env.locals < s.heap.objs.size := let ⟨_, hn, _⟩ := I.loc; hn.lt
theorem Inv.sz (I : Inv X pins σ H s) : X.s₀.heap.objs.size ≤ s.heap.objs.size := Nat.le_trans I.ok.above (Nat.le_of_lt I.lt)
theorem Inv.nofs (I : Inv X pins σ H s) {a : Addr} (h : s.heap.objs.size ≤ a) : a ∉ X.fs := fun hb => by
  obtain ⟨_, o, ho, _⟩ := I.ok.funs.mem hb
  exact absurd (Nat.lt_of_lt_of_le (Heap.lt_size ho) (Nat.le_trans I.sz h)) (Nat.lt_irrefl _)
theorem Inv.cne (I : Inv X pins σ H s) : ∀ x c, X.env.cells.lookup x = some c → c ≠ X.env.locals := fun x c e z => by
  obtain ⟨v, o, ho, hd⟩ := I.cell x c e
  obtain ⟨m, ⟨o', es, ep, ho', hd', _⟩, _⟩ := I.loc
  rw [z, ho'] at ho; cases ho; rw [hd'] at hd; cases hd
theorem Inv.funs (I : Inv X pins σ H s) : s.heap.FunFrames X.base X.outer := by
  have all : ∀ (l : List Env), (∀ b ∈ frs l, b ∈ X.fs) → X.s₀.heap.FunFrames X.base l → s.heap.FunFrames X.base l := by
    intro l
    induction l with
    | nil => intro _ _; trivial
    | cons env r ih =>
      intro hs hl
      obtain ⟨hk, ⟨L, o, hf, hn, ho, hd⟩, hr⟩ := hl
      have hL : L ∈ X.fs := hs L (by unfold frs; rw [List.filterMap_cons, hf]; exact List.mem_cons_self)
      obtain ⟨sl, e⟩ := I.base.slot L o ho (I.ok.frf L hL) hL fun z => I.ok.exfs L z hL
      exact ⟨hk, ⟨L, _, hf, hn, e, hd⟩, ih (fun b hb => hs b (by unfold frs; rw [List.filterMap_cons, hf]; exact List.mem_cons_of_mem _ hb)) hr⟩
  exact all X.outer (fun _ hb => hb) I.ok.funs
theorem Inv.stack (I : Inv X pins σ H s) : s.heap.FunFrames X.base X.stack := by
  rcases I.ok.stk with e | ⟨e, hf⟩
  · rw [e]; exact I.funs
  · rw [e]
    obtain ⟨m, hn, _⟩ := I.loc
    refine .cons (by rw [I.ok.kind]; decide) hf hn ?_ I.funs
    exact Heap.get?_none_of_le (Nat.le_trans I.ok.bsz I.ok.above)
theorem Inv.stkSub (I : Inv X pins σ H s) : ∀ b ∈ frs X.stack, b ∈ X.env.locals :: X.fs := fun b hb => by
  rcases I.ok.stk with e | ⟨e, hf⟩
  · rw [e] at hb; exact List.mem_cons_of_mem _ hb
  · rw [e] at hb
    unfold frs at hb
    rw [List.filterMap_cons, hf] at hb
    exact hb
theorem Inv.stkFree (I : Inv X pins σ H s) : ∀ b ∈ frs X.stack, H b = none := fun b hb => by
  rcases List.mem_cons.mp (I.stkSub b hb) with e | hb
  · rw [e]; exact I.free
  · obtain ⟨_, o, ho, _⟩ := I.ok.funs.mem hb
    exact I.base.free b o ho (I.ok.frf b hb) fun z => I.ok.exfs b z hb
theorem Inv.step {g' : Array GenState} {t' : Nat} {d' : Drawn} {ch : List Addr} (I : Inv X pins σ H s)
    (hch : ∀ b ∈ ch, (b ∈ X.ex ∨ X.s₀.heap.objs.size ≤ b) ∧ b ≠ X.env.locals ∧ (∀ x c, X.env.cells.lookup x = some c → c ≠ b) ∧ ∀ p ∈ X.pn ++ pins, p.1 ≠ b)
    (keep : ∀ b o, b ≠ X.env.locals → b ∉ X.fs → b ∉ ch → s.heap.get? b = some o → H b = none → h'.get? b = some o)
    (slot : ∀ b o, b ≠ X.env.locals → b ∈ X.fs → b ∉ ch → s.heap.get? b = some o → H b = none → ∃ sl, h'.get? b = some { o with slots := sl }) (free : ∀ b o, b ∉ ch → s.heap.get? b = some o → H b = none → H' b = none)
    (there : ∀ b o, b ∉ ch → s.heap.get? b = some o → ∃ o', h'.get? b = some o')
    (tups : ∀ b xs, H b = some (.tup xs) → H' b = some (.tup xs)) (frzs : ∀ b o u, H b = some (.frz o u) → H' b = some (.frz o u)) (tbls : ∀ b ps, H b = some (.tbl ps) → ∃ more, H' b = some (.tbl (ps ++ more)))
    (ns : ∀ m, s.heap.Ns X.env.locals m → h'.Ns X.env.locals m) (hok : HOk X.prog X.w H' h') (hg : AllBare g') :
    Inv X pins σ H' { s with heap := h', gens := g', drawn := d', toks := t' } := by
  have neL : ∀ b o, X.s₀.heap.get? b = some o → b ≠ X.env.locals := fun b o e => Nat.ne_of_lt (Nat.lt_of_lt_of_le (Heap.lt_size e) I.ok.above)
  have neC : ∀ b o, X.s₀.heap.get? b = some o → b ∉ X.ex → b ∉ ch := fun b o e hx hb => by
    rcases (hch b hb).1 with z | z
    · exact hx z
    · exact absurd (Nat.lt_of_lt_of_le (Heap.lt_size e) z) (Nat.lt_irrefl _)
  have cellK : ∀ x c, X.env.cells.lookup x = some c → ∀ v, s.heap.IsCell c v → h'.IsCell c v := fun x c e v ⟨o, ho, hd⟩ => by
    have nch : c ∉ ch := fun z => (hch c z).2.2.1 x c e rfl
    by_cases hc : c ∈ X.fs
    · obtain ⟨sl, q⟩ := slot c o (I.cne x c e) hc nch ho (I.freeC x c e)
      exact ⟨_, q, hd⟩
    · exact ⟨o, keep c o (I.cne x c e) hc nch ho (I.freeC x c e), hd⟩
  refine ⟨I.ok, I.os, hg, ⟨fun b o e n hb hx => ?_, fun b o e n hb hx => ?_, fun b o e n hx => ?_, fun b o e hx => ?_, fun b xs e => tups b xs (I.base.tups b xs e), fun b o xs e => frzs b o xs (I.base.frzs b o xs e), fun b ps e => ?_⟩, ?_, fun x c e => ?_, ?_, fun x c e => ?_, fun p hp => ?_, hok, I.len⟩
  · exact keep b o (neL b o e) hb (neC b o e hx) (I.base.keep b o e n hb hx) (I.base.free b o e n hx)
  · obtain ⟨sl, e1⟩ := I.base.slot b o e n hb hx
    obtain ⟨sl', e2⟩ := slot b _ (neL b o e) hb (neC b o e hx) e1 (I.base.free b o e n hx)
    exact ⟨sl', e2⟩
  · obtain ⟨o', e1⟩ := I.base.there b o e hx
    exact free b o' (neC b o e hx) e1 (I.base.free b o e n hx)
  · obtain ⟨o', e1⟩ := I.base.there b o e hx
    exact there b o' (neC b o e hx) e1
  · obtain ⟨m1, e1⟩ := I.base.tbls b ps e
    obtain ⟨m2, e2⟩ := tbls b _ e1
    exact ⟨m1 ++ m2, by rw [e2, Array.append_assoc]⟩
  · obtain ⟨m, hn, hl⟩ := I.loc
    refine ⟨m, ns m hn, fun i x v e1 e2 e3 => ?_⟩
    obtain ⟨u, r, l⟩ := hl i x v e1 e2 e3
    refine ⟨u, r, ?_⟩
    rcases l with l | ⟨k, c, e, z⟩
    · exact .inl l
    · exact .inr ⟨k, c, e, cellK x c e _ z⟩
  · obtain ⟨v, z⟩ := I.cell x c e
    exact ⟨v, cellK x c e v z⟩
  · obtain ⟨m, ⟨o, _, _, ho, _⟩, _⟩ := I.loc
    exact free _ o (fun z => (hch _ z).2.1 rfl) ho I.free
  · obtain ⟨v, o, ho, hd⟩ := I.cell x c e
    exact free c o (fun z => (hch c z).2.2.1 x c e rfl) ho (I.freeC x c e)
  · obtain ⟨e, n, ne, nf, d⟩ := I.pin p hp
    have nch : p.1 ∉ ch := fun z => (hch p.1 z).2.2.2 p hp rfl
    exact ⟨keep p.1 p.2 ne nf nch e n, free p.1 p.2 nch e n, ne, nf, d⟩
theorem Inv.un {t' : Nat} (I : Inv X pins σ H s) (u : Un X.fs [] H H' s.heap h') (hok : HOk X.prog X.w H' h') : Inv X pins σ H' { s with heap := h', toks := t' } := by
  obtain ⟨m, ⟨o, es, ep, ho, r⟩, _⟩ := id I.loc
  obtain ⟨sl, hL⟩ := u.any ho I.free (by simp)
  exact I.step (g' := s.gens) (d' := s.drawn) (ch := []) (fun _ z => nomatch z) (fun b o _ hb _ e n => u.keep b o e n hb (by simp)) (fun b o _ hb _ e n => u.slot b o e n hb (by simp)) (fun b o _ e n => u.free b o e n (by simp)) (fun b o _ e => u.there b o e (by simp)) u.tups u.frzs u.tbls (fun m' hm => by
    obtain ⟨o', es', ep', ho', r'⟩ := hm
    rw [ho] at ho'; cases ho'
    exact ⟨_, es', ep', hL, r'⟩) hok I.bare
theorem Inv.call {g' : Array GenState} {t' : Nat} {d' : Drawn} {ch : List Addr} (I : Inv X pins σ H s) (u : Un (frs X.stack) ch H H' s.heap h') (hok : HOk X.prog X.w H' h') (hg : AllBare g')
    (hch : ∀ b ∈ ch, (b ∈ X.ex ∨ X.s₀.heap.objs.size ≤ b) ∧ b ≠ X.env.locals ∧ (∀ x c, X.env.cells.lookup x = some c → c ≠ b) ∧ ∀ p ∈ X.pn ++ pins, p.1 ≠ b) :
    Inv X pins σ H' { s with heap := h', gens := g', drawn := d', toks := t' } := by
  obtain ⟨m, ⟨o, es, ep, ho, r⟩, _⟩ := id I.loc
  obtain ⟨sl, hL⟩ := u.any ho I.free fun z => (hch _ z).2.1 rfl
  exact I.step (ch := ch) hch (fun b o hL hb hc e n => u.keep b o e n (fun z => (List.mem_cons.mp (I.stkSub b z)).elim hL hb) hc) (fun b o _ _ hc e n => u.any e n hc) (fun b o hc e n => u.free b o e n hc) (fun b o hc e => u.there b o e hc) u.tups u.frzs u.tbls (fun m' hm => by
    obtain ⟨o', es', ep', ho', r'⟩ := hm
    rw [ho] at ho'; cases ho'
    exact ⟨_, es', ep', hL, r'⟩) hok hg
theorem Inv.turned {t' : Nat} {it : Addr} (I : Inv X pins σ H s) (k : ∀ b o, b ≠ it → s.heap.get? b = some o → h'.get? b = some o) (hn : H it = none) (hL : it ≠ X.env.locals)
    (h1 : it ∈ X.ex ∨ X.s₀.heap.objs.size ≤ it) (h2 : ∀ x c, X.env.cells.lookup x = some c → c ≠ it) (h3 : ∀ p ∈ X.pn ++ pins, p.1 ≠ it) : Inv X pins σ H { s with heap := h', toks := t' } := by
  have nit : ∀ b u, H b = some u → b ≠ it := fun b u e z => by rw [z, hn] at e; cases e
  refine I.step (g' := s.gens) (d' := s.drawn) (ch := [it]) (fun b hb => ?_) (fun b o _ _ hc e _ => k b o (fun z => hc (by simp [z])) e) (fun b o _ _ hc e _ => ⟨o.slots, k b o (fun z => hc (by simp [z])) e⟩) (fun _ _ _ _ n => n)
    (fun b o hc e => ⟨o, k b o (fun z => hc (by simp [z])) e⟩) (fun _ _ e => e) (fun _ _ _ e => e) (fun b ps e => ⟨#[], by rw [e]; simp⟩) (fun m hm => ?_) (fun b u e => ?_) I.bare
  · have e : b = it := by simpa using hb
    subst e
    exact ⟨h1, hL, h2, h3⟩
  · obtain ⟨o, es, ep, ho, r⟩ := hm
    exact ⟨o, es, ep, k _ o (Ne.symm hL) ho, r⟩
  · refine (I.hok b u e).stay (fun c v hc q => k c v ?_ q) (fun _ q => q) fun _ _ q => q
    rcases hc with z | z
    · rw [z]; exact nit b u e
    · exact nit c _ z
theorem Inv.tok (I : Inv X pins σ H s) (t : Nat) : Inv X pins σ H { s with toks := t } := I.un (h' := s.heap) (t' := t) Un.refl I.hok
theorem Inv.kept {t' : Nat} (I : Inv X pins σ H s) (k : ∀ b u, s.heap.get? b = some u → h'.get? b = some u) : Inv X pins σ H { s with heap := h', toks := t' } := I.un (Un.kept k) (I.hok.kept k)
theorem Inv.laid {a : Addr} {o : HO} {t' : Nat} (I : Inv X pins σ H s) (k : ∀ b u, s.heap.get? b = some u → h'.get? b = some u) (hp : s.heap.objs.size ≤ a) (new : ObjOk X.prog X.w (upd H a o) h' a o) :
    Inv X pins σ (upd H a o) { s with heap := h', toks := t' } := I.un (Un.laid k hp (I.hok.fresh hp)) (I.hok.laid k hp new)
theorem Inv.write {x e : Addr} {o : HO} {t' : Nat} (I : Inv X pins σ H s) (mu : Mut (H x)) (he : e = x ∨ H e = some (.own x)) (k : ∀ b u, b ≠ e → s.heap.get? b = some u → h'.get? b = some u) (heo : ∃ u, h'.get? e = some u)
    (new : ObjOk X.prog X.w (upd H x o) h' x o) : Inv X pins σ (upd H x o) { s with heap := h', toks := t' } := I.un (Un.write mu he k heo) (I.hok.write mu he k heo new)
theorem Inv.pins_of {pins' : List (Addr × Obj)} (I : Inv X pins σ H s) (h : ∀ p ∈ pins', s.heap.get? p.1 = some p.2 ∧ H p.1 = none ∧ p.1 ≠ X.env.locals ∧ p.1 ∉ X.fs ∧ ∀ v, p.2.data ≠ .cell v) : Inv X pins' σ H s :=
  ⟨I.ok, I.os, I.bare, I.base, I.loc, I.cell, I.free, I.freeC, fun p hp => (List.mem_append.mp hp).elim (fun z => I.pin p (List.mem_append_left _ z)) (h p), I.hok, I.len⟩
theorem nodup_ix {N : List Str} (hN : N.Nodup) {i j : Nat} {x : Str} (a : N[i]? = some x) (b : N[j]? = some x) : i = j := by
  obtain ⟨h1, e1⟩ := List.getElem?_eq_some_iff.mp a
  obtain ⟨h2, e2⟩ := List.getElem?_eq_some_iff.mp b
  exact (List.getElem_inj hN).mp (e1.trans e2.symm)
theorem store_ok2 {M : Model} {A : Around} {E : Value → Shared → Prop} {i : Nat} {x : Str} {v : V} {u : Value} {Q : Unit → Shared → Prop} (I : Inv X pins σ H s) (hN : X.N.Nodup) (hi : X.N[i]? = some x) (hx : Loc X.env.scope x) (r : RelV v u)
    (h : ∀ s', Inv X pins (σ.set i (some v)) H s' → (∃ a, Heap.SameBut a s.heap s'.heap ∧ (a = X.env.locals ∨ X.env.cells.lookup x = some a)) → Q () s') (hf : X.fn x = true ∨ X.env.scope.names.lookup x = some .local := by first | exact .inl rfl | exact .inr rfl | assumption) : wpAny M A (storeName X.env x u) Q E s := by
  obtain ⟨m, hn, hl⟩ := id I.loc
  have hcls : (X.env.scope.kind == .class || (X.env.scope.kind == .module && X.env.locals != X.env.globals)) = false := by rw [I.ok.kind]; rfl
  have hiσ : i < σ.length := by rw [I.len]; exact (List.getElem?_eq_some_iff.mp hi).1
  have cne := I.cne
  have tracked : ∀ {a : Addr} {h' : Heap}, (∃ o, s.heap.get? a = some o ∧ H a = none) → Heap.SameBut a s.heap h' → HOk X.prog X.w H h' := fun {a h'} ha hs b ob e => by
    obtain ⟨_, _, hfree⟩ := ha
    refine (I.hok b ob e).stay (fun c w' hc q => (hs.2 c ?_).trans q) (fun _ q => q) fun _ _ q => q
    rintro rfl
    rcases hc with rfl | hc
    · rw [hfree] at e; cases e
    · rw [hfree] at hc; cases hc
  rcases hx with hk | hk
  · refine wpAny_storeName_local hk hn (fun h' hn' hs => ?_) hcls
    obtain ⟨oL, _, _, hoL, _⟩ := id hn
    refine h _ ⟨I.ok, I.os, I.bare, ⟨fun b o e n hb hx => ?_, fun b o e n hb hx => ?_, I.base.free, fun b o e hx => ?_, I.base.tups, I.base.frzs, I.base.tbls⟩, ⟨_, hn', fun j y v' e1 e2 e3 => ?_⟩, fun y c e => ?_, I.free, I.freeC, fun p hp => ?_, tracked ⟨oL, hoL, I.free⟩ hs, by simpa using I.len⟩ ⟨_, hs, .inl rfl⟩
    · exact (hs.2 b (Nat.ne_of_lt (Nat.lt_of_lt_of_le (Heap.lt_size e) I.ok.above))).trans (I.base.keep b o e n hb hx)
    · obtain ⟨sl, e1⟩ := I.base.slot b o e n hb hx
      exact ⟨sl, (hs.2 b (Nat.ne_of_lt (Nat.lt_of_lt_of_le (Heap.lt_size e) I.ok.above))).trans e1⟩
    · obtain ⟨o', e1⟩ := I.base.there b o e hx
      exact ⟨o', (hs.2 b (Nat.ne_of_lt (Nat.lt_of_lt_of_le (Heap.lt_size e) I.ok.above))).trans e1⟩
    · by_cases hj : j = i
      · subst hj
        rw [hi] at e1; cases e1
        rw [List.getElem?_set_self hiσ] at e2
        cases e2
        exact ⟨u, r, .inl ⟨hk, by simp⟩⟩
      · rw [List.getElem?_set_ne (Ne.symm hj)] at e2
        obtain ⟨u', r', q⟩ := hl j y v' e1 e2 e3
        refine ⟨u', r', ?_⟩
        rcases q with ⟨k, e⟩ | ⟨k, c, e, z⟩
        · refine .inl ⟨k, ?_⟩
          have : y ≠ x := fun e => hj (nodup_ix hN e1 (e ▸ hi))
          simp [this, e]
        · exact .inr ⟨k, c, e, z.sameBut hs (cne y c e)⟩
    · obtain ⟨w', z⟩ := I.cell y c e
      exact ⟨w', z.sameBut hs (cne y c e)⟩
    · obtain ⟨e, n, ne, nf, d⟩ := I.pin p hp
      exact ⟨(hs.2 p.1 ne).trans e, n, ne, nf, d⟩
  · have hfn : X.fn x = true := by
      rcases hf with z | z
      · exact z
      · rw [z] at hk; cases hk
    obtain ⟨c, hc⟩ := I.ok.has x (.inl hk)
    obtain ⟨w', z⟩ := I.cell x c hc
    refine wpAny_storeName_cell I.ok.kind hk hc z (fun h' hc' hs => ?_)
    obtain ⟨oc, hoc, hocd⟩ := id z
    refine h { s with heap := h' } ⟨I.ok, I.os, I.bare, ⟨fun b o e n hb hx => ?_, fun b o e n hb hx => ?_, I.base.free, fun b o e hx => ?_, I.base.tups, I.base.frzs, I.base.tbls⟩, ⟨m, hn.sameBut hs (Ne.symm (cne x c hc)), fun j y v' e1 e2 e3 => ?_⟩, fun y c' e => ?_, I.free, I.freeC, fun p hp => ?_, tracked ⟨oc, hoc, I.freeC x c hc⟩ hs, by simpa using I.len⟩ ⟨c, hs, .inr hc⟩
    · exact (hs.2 b (Nat.ne_of_lt (Nat.lt_of_lt_of_le (Heap.lt_size e) (I.ok.cab x c hfn hc)))).trans (I.base.keep b o e n hb hx)
    · obtain ⟨sl, e1⟩ := I.base.slot b o e n hb hx
      exact ⟨sl, (hs.2 b (Nat.ne_of_lt (Nat.lt_of_lt_of_le (Heap.lt_size e) (I.ok.cab x c hfn hc)))).trans e1⟩
    · obtain ⟨o', e1⟩ := I.base.there b o e hx
      exact ⟨o', (hs.2 b (Nat.ne_of_lt (Nat.lt_of_lt_of_le (Heap.lt_size e) (I.ok.cab x c hfn hc)))).trans e1⟩
    · by_cases hj : j = i
      · subst hj
        rw [hi] at e1; cases e1
        rw [List.getElem?_set_self hiσ] at e2
        cases e2
        exact ⟨u, r, .inr ⟨.inl hk, c, hc, hc'⟩⟩
      · rw [List.getElem?_set_ne (Ne.symm hj)] at e2
        obtain ⟨u', r', q⟩ := hl j y v' e1 e2 e3
        refine ⟨u', r', ?_⟩
        rcases q with q | ⟨k, c', e, z'⟩
        · exact .inl q
        · refine .inr ⟨k, c', e, z'.sameBut hs ?_⟩
          rintro rfl
          exact hj (nodup_ix hN e1 (I.ok.inj _ _ _ e hc ▸ hi))
    · by_cases hcc : c' = c
      · subst hcc; exact ⟨_, hc'⟩
      · obtain ⟨w2, z2⟩ := I.cell y c' e
        exact ⟨w2, z2.sameBut hs hcc⟩
    · obtain ⟨e, n, ne, nf, d⟩ := I.pin p hp
      refine ⟨(hs.2 p.1 ?_).trans e, n, ne, nf, d⟩
      intro q
      rw [q, hoc] at e
      have q' : oc = p.2 := Option.some.inj e
      exact d w' (by rw [← q']; exact hocd)
theorem store_ok {M : Model} {A : Around} {E : Value → Shared → Prop} {i : Nat} {x : Str} {v : V} {u : Value} {Q : Unit → Shared → Prop} (I : Inv X pins σ H s) (hN : X.N.Nodup) (hi : X.N[i]? = some x) (hx : Loc X.env.scope x) (r : RelV v u)
    (h : ∀ s', Inv X pins (σ.set i (some v)) H s' → Q () s') (hf : X.fn x = true ∨ X.env.scope.names.lookup x = some .local := by first | exact .inl rfl | exact .inr rfl | assumption) : wpAny M A (storeName X.env x u) Q E s :=
  store_ok2 I hN hi hx r (fun s' I' _ => h s' I') hf
theorem Inv.call' {s' : Shared} {ch : List Addr} (I : Inv X pins σ H s) (ho : s'.os = s.os) (u : Un (frs X.stack) ch H H' s.heap s'.heap) (hok : HOk X.prog X.w H' s'.heap) (hg : AllBare s'.gens)
    (hch : ∀ b ∈ ch, (b ∈ X.ex ∨ X.s₀.heap.objs.size ≤ b) ∧ b ≠ X.env.locals ∧ (∀ x c, X.env.cells.lookup x = some c → c ≠ b) ∧ ∀ p ∈ X.pn ++ pins, p.1 ≠ b) : Inv X pins σ H' s' := by
  obtain ⟨h', g', d', t', o'⟩ := s'
  have e : o' = s.os := ho
  subst e
  exact I.call (g' := g') (t' := t') (d' := d') u hok hg hch
end
noncomputable abbrev XK := Value → Option Addr → Hp → Prop
noncomputable abbrev St := List (Option V)
noncomputable abbrev VK := V → Hp → Prop
noncomputable abbrev TE := St → Hp → VK → Prop
noncomputable abbrev TT := St → Hp → (Bool → Hp → Prop) → Prop
noncomputable abbrev TA := St → Hp → (List V → Hp → Prop) → Prop
structure Ends where
  nx : St → Hp → Prop
  rt : VK
  bk : St → Hp → Prop := fun _ _ => False
  ct : St → Hp → Prop := fun _ _ => False
noncomputable abbrev TS := Ends → St → Hp → Prop
noncomputable def EP (X : Cx) (pins : List (Addr × Obj)) (σ : St) (Q : VK) (u : Value) (s' : Shared) : Prop := ∃ v H', Inv X pins σ H' s' ∧ RelV v u ∧ Q v H'
noncomputable def TP (X : Cx) (pins : List (Addr × Obj)) (σ : St) (Q : Bool → Hp → Prop) (b : Bool) (s' : Shared) : Prop := ∃ H', Inv X pins σ H' s' ∧ Q b H'
noncomputable def AP (X : Cx) (pins : List (Addr × Obj)) (σ : St) (Q : List V → Hp → Prop) (us : List Value) (s' : Shared) : Prop := ∃ vs H', Inv X pins σ H' s' ∧ Vals vs us ∧ Q vs H'
noncomputable def SP (X : Cx) (pins : List (Addr × Obj)) (D : Ends) (f : Flow) (s' : Shared) : Prop :=
  match f with
  | .next => ∃ σ' H', Inv X pins σ' H' s' ∧ D.nx σ' H'
  | .brk => ∃ σ' H', Inv X pins σ' H' s' ∧ D.bk σ' H'
  | .cont => ∃ σ' H', Inv X pins σ' H' s' ∧ D.ct σ' H'
  | .ret u => ∃ v σ' H', Inv X pins σ' H' s' ∧ RelV v u ∧ D.rt v H'
noncomputable def PE (X : Cx) (e : Expr) (t : TE) : Prop :=
  ∀ (pins : List (Addr × Obj)) (s : Shared) (σ : St) (H : Hp) (Q : VK), Inv X pins σ H s → t σ H Q → wpAny (model X.prog X.w) X.A (eval e X.env) (EP X pins σ Q) X.xe s
noncomputable def PT (X : Cx) (e : Expr) (t : TT) : Prop :=
  ∀ (pins : List (Addr × Obj)) (s : Shared) (σ : St) (H : Hp) (Q : Bool → Hp → Prop), Inv X pins σ H s → t σ H Q → wpAny (model X.prog X.w) X.A (isTrue e X.env (eval e X.env)) (TP X pins σ Q) X.xe s
noncomputable def PW (X : Cx) (e : Expr) (t : TT) : Prop :=
  ∀ (whole : Sem Value) (pins : List (Addr × Obj)) (s : Shared) (σ : St) (H : Hp) (Q : Bool → Hp → Prop), Inv X pins σ H s → t σ H Q → wpAny (model X.prog X.w) X.A (isTrue e X.env whole) (TP X pins σ Q) X.xe s
theorem PW.pt {X : Cx} {e : Expr} {t : TT} (h : PW X e t) : PT X e t := h _
noncomputable def PA (X : Cx) (es : List Expr) (t : TA) : Prop :=
  ∀ (pos : Pos) (pins : List (Addr × Obj)) (s : Shared) (σ : St) (H : Hp) (Q : List V → Hp → Prop), Inv X pins σ H s → t σ H Q → wpAny (model X.prog X.w) X.A (spliced (backTo pos (starEach es X.env))) (AP X pins σ Q) X.xe s
noncomputable def PS (X : Cx) (st : Stmt) (t : TS) : Prop :=
  ∀ (pins : List (Addr × Obj)) (s : Shared) (σ : St) (H : Hp) (D : Ends), Inv X pins σ H s → t D σ H → wpAny (model X.prog X.w) X.A (exec st X.env) (SP X pins D) X.xe s
noncomputable def PSs (X : Cx) (st : List Stmt) (t : TS) : Prop :=
  ∀ (pins : List (Addr × Obj)) (s : Shared) (σ : St) (H : Hp) (D : Ends), Inv X pins σ H s → t D σ H → wpAny (model X.prog X.w) X.A (execs st X.env) (SP X pins D) X.xe s
theorem thn {α : Type} {t : Sem α} {Q Q' : α → Shared → Prop} {M : Model} {A : Around} {E : Value → Shared → Prop} {s : Shared} (h : wpAny M A t Q E s) (hQ : ∀ a s, Q a s → Q' a s) : wpAny M A t Q' E s := wpAny_mono h hQ fun _ _ x => x
end L2
namespace L2
open PySem PySem.Spec PyProof.Rows
section
variable {X : Cx}
theorem bin {a b : Expr} {ta tb : TE} (ha : PE X a ta) (hb : PE X b tb) {pins : List (Addr × Obj)} {s : Shared} {σ : St} {H : Hp} {R : V → V → Hp → Prop} (I : Inv X pins σ H s) (h : ta σ H fun x H1 => tb σ H1 fun y H2 => R x y H2)
    {α : Type} {Q : α → Shared → Prop} {f : Value → Value → Sem α}
    (hf : ∀ v u s2 x y H2, Inv X pins σ H2 s2 → RelV x v → RelV y u → R x y H2 → wpAny (model X.prog X.w) X.A (f v u) Q X.xe s2) :
    wpAny (model X.prog X.w) X.A (eval a X.env) (fun v s₁ => wpAny (model X.prog X.w) X.A (eval b X.env) (fun u s₂ => wpAny (model X.prog X.w) X.A (f v u) Q X.xe s₂) X.xe s₁) X.xe s := by
  refine thn (ha pins s σ H _ I h) fun v s1 ⟨x, H1, I1, r1, q1⟩ => ?_
  refine thn (hb pins s1 σ H1 _ I1 q1) fun u s2 ⟨y, H2, I2, r2, q2⟩ => ?_
  exact hf v u s2 x y H2 I2 r1 r2 q2
noncomputable def tVar (i : Nat) : TE := fun σ H Q => ∃ v, σ[i]? = some (some v) ∧ Q v H
noncomputable def tC (v : V) : TE := fun _ H Q => Q v H
theorem pe_var {i : Nat} {x : Str} {pos : Pos} (hN : X.N[i]? = some x) (hv : Vis X.env.scope x) (hd : (x == ("__debug__" : Str)) = false := by decide) (hcd : (x == ("__classdict__" : Str)) = false := by decide) : PE X (.Name x pos) (tVar i) := by
  intro pins s σ H Q I h
  obtain ⟨v, e, h⟩ := h
  obtain ⟨m, hn, hl⟩ := I.loc
  obtain ⟨u, r, l⟩ := hl i x v hN e hv
  have fin : EP X pins σ Q u s := ⟨v, H, I, r, h⟩
  rcases l with ⟨hk, hm⟩ | ⟨hk, c, hc, hcell⟩
  · exact wpAny_Name (wpAny_loadName_local I.ok.kind hk hn hm fin) hd
  · rcases hk with hk | hk
    · exact wpAny_Name (wpAny_loadName_cell I.ok.kind hk hc hcell fin) hd
    · exact wpAny_Name (wpAny_loadName_free I.ok.kind hk hc hcell fin hcd) hd
theorem pe_int {i j pos} : PE X (.Constant (.int i) j pos) (tC (.int i)) := fun _ _ _ H _ I h => wpAny_Constant_int ⟨.int i, H, I.tok _, ⟨_, rfl⟩, h⟩
theorem pe_bl {b j pos} : PE X (.Constant (.bool b) j pos) (tC (.bl b)) := fun _ _ _ H _ I h => Constant_bool ⟨.bl b, H, I, rfl, h⟩
theorem pe_non {j pos} : PE X (.Constant .none j pos) (tC .non) := fun _ _ _ H _ I h => Constant_none ⟨.non, H, I, rfl, h⟩
theorem pe_str {x j pos} : PE X (.Constant (.str x) j pos) (tC (.str x)) := fun _ _ _ H _ I h => Calls.Constant_str ⟨.str x, H, I.tok _, ⟨_, rfl⟩, h⟩
noncomputable def Gl (X : Cx) (x : Str) : Prop := X.env.kindOf x = some .globalImplicit
theorem ld_glob {E : Value → Shared → Prop} {pins : List (Addr × Obj)} {s : Shared} {σ : St} {H : Hp} {x : Str} {u : Value} {pos : Pos} {Q : Value → Shared → Prop} (I : Inv X pins σ H s) (hg : Gl X x) (hm : X.mg x = some u) (h : Q u s)
    (hd : (x == ("__debug__" : Str)) = false := by decide) : wpAny (model X.prog X.w) X.A (eval (.Name x pos) X.env) Q E s :=
  Calls.Name_function_global I.ok.kind hg (Calls.loadGlobal_global (by rw [I.ok.glob]; exact I.mod.glob.keeps I.bk) hm h) hd
theorem ld_blt {E : Value → Shared → Prop} {pins : List (Addr × Obj)} {s : Shared} {σ : St} {H : Hp} {x : Str} {u : Value} {pos : Pos} {Q : Value → Shared → Prop} (I : Inv X pins σ H s) (hg : Gl X x) (hm : X.mg x = none) (hv : bootBuiltins x = some u) (h : Q u s)
    (hn : x ≠ "__name__" := by decide) (hd : (x == ("__debug__" : Str)) = false := by decide) : wpAny (model X.prog X.w) X.A (eval (.Name x pos) X.env) Q E s := by
  obtain ⟨mb, h1, h2⟩ := I.mod.blt
  exact Calls.Name_function_global I.ok.kind hg (Calls.loadGlobal_builtin (by rw [I.ok.glob]; exact I.mod.glob.keeps I.bk) hm (by rw [I.ok.blt]; exact h1.keeps I.bk) ((h2 x hn).trans hv) h) hd
theorem pe_glob {x : Str} {v : V} {u : Value} {pos : Pos} (hg : Gl X x) (hm : X.mg x = some u) (r : RelV v u) (hd : (x == ("__debug__" : Str)) = false := by decide) : PE X (.Name x pos) (tC v) :=
  fun _ _ _ H _ I h => ld_glob I hg hm ⟨v, H, I, r, h⟩ hd
theorem pe_bltn {x : Str} {v : V} {u : Value} {pos : Pos} (hg : Gl X x) (hm : X.mg x = none) (hv : bootBuiltins x = some u) (r : RelV v u) (hn : x ≠ "__name__" := by decide) (hd : (x == ("__debug__" : Str)) = false := by decide) : PE X (.Name x pos) (tC v) :=
  fun _ _ _ H _ I h => ld_blt I hg hm hv ⟨v, H, I, r, h⟩ hn hd
variable {a b : Expr} {ta tb : TE} {pos : Pos}
variable {tA tB' : TT} {rest : List Expr}
noncomputable def tAnd (t u : TT) : TT := fun σ H Q => t σ H fun c H1 => if c = true then u σ H1 Q else Q false H1
noncomputable def tOr (t u : TT) : TT := fun σ H Q => t σ H fun c H1 => if c = true then Q true H1 else u σ H1 Q
noncomputable def tNot (t : TT) : TT := fun σ H Q => t σ H fun c H1 => Q (!c) H1
theorem pw_and1 (ha : PT X a tA) : PW X (.BoolOp .And [a] pos) tA := by
  intro wh pins s σ H Q I h
  refine isTrue_and (thn (ha pins s σ H Q I h) fun c s1 e => ?_)
  cases c with
  | true => exact isTrue_and_nil e
  | false => exact e
theorem pw_or1 (ha : PT X a tA) : PW X (.BoolOp .Or [a] pos) tA := by
  intro wh pins s σ H Q I h
  refine isTrue_or (thn (ha pins s σ H Q I h) fun c s1 e => ?_)
  cases c with
  | false => exact isTrue_or_nil e
  | true => exact e
theorem pw_and (ha : PT X a tA) (hb : PW X (.BoolOp .And (b :: rest) pos) tB') : PW X (.BoolOp .And (a :: b :: rest) pos) (tAnd tA tB') := by
  intro wh pins s σ H Q I h
  refine isTrue_and (thn (ha pins s σ H _ I h) fun c s1 ⟨H1, I1, q1⟩ => ?_)
  cases c with
  | true => exact hb wh pins s1 σ H1 Q I1 q1
  | false => exact ⟨H1, I1, q1⟩
theorem pw_or (ha : PT X a tA) (hb : PW X (.BoolOp .Or (b :: rest) pos) tB') : PW X (.BoolOp .Or (a :: b :: rest) pos) (tOr tA tB') := by
  intro wh pins s σ H Q I h
  refine isTrue_or (thn (ha pins s σ H _ I h) fun c s1 ⟨H1, I1, q1⟩ => ?_)
  cases c with
  | true => exact ⟨H1, I1, q1⟩
  | false => exact hb wh pins s1 σ H1 Q I1 q1
theorem pt_not (ha : PT X a tA) : PT X (.UnaryOp .Not a pos) (tNot tA) := by
  intro pins s σ H Q I h
  exact isTrue_not (ha pins s σ H (fun c H1 => Q (!c) H1) I h)
noncomputable def tAndV (ta tb : TE) : TE := fun σ H Q => ta σ H fun x H1 => ∃ c, x = .bl c ∧ if c = true then tb σ H1 Q else Q (.bl false) H1
noncomputable def tOrV (ta tb : TE) : TE := fun σ H Q => ta σ H fun x H1 => ∃ c, x = .bl c ∧ if c = true then Q (.bl true) H1 else tb σ H1 Q
noncomputable def tNotV (ta : TE) : TE := fun σ H Q => ta σ H fun x H1 => ∃ c, x = .bl c ∧ Q (.bl (!c)) H1
theorem pe_one {op} {t : TE} (h : PE X a t) : PE X (.BoolOp op [a] pos) t := fun pins s σ H Q I hw => BoolOp_one (h pins s σ H Q I hw)
theorem pe_and (ha : PE X a ta) (hb : PE X (.BoolOp .And (b :: rest) pos) tb) : PE X (.BoolOp .And (a :: b :: rest) pos) (tAndV ta tb) := by
  intro pins s σ H Q I h
  refine BoolOp_and (thn (ha pins s σ H _ I h) fun v s1 ⟨x, H1, I1, r1, q1⟩ => ?_)
  obtain ⟨c, rfl, q1⟩ := q1
  cases r1
  refine wpAny_truthy_bool ?_
  cases c with
  | true => exact hb pins s1 σ H1 Q I1 q1
  | false => exact ⟨.bl false, H1, I1, rfl, q1⟩
theorem pe_or (ha : PE X a ta) (hb : PE X (.BoolOp .Or (b :: rest) pos) tb) : PE X (.BoolOp .Or (a :: b :: rest) pos) (tOrV ta tb) := by
  intro pins s σ H Q I h
  refine BoolOp_or (thn (ha pins s σ H _ I h) fun v s1 ⟨x, H1, I1, r1, q1⟩ => ?_)
  obtain ⟨c, rfl, q1⟩ := q1
  cases r1
  refine wpAny_truthy_bool ?_
  cases c with
  | false => exact hb pins s1 σ H1 Q I1 q1
  | true => exact ⟨.bl true, H1, I1, rfl, q1⟩
theorem pe_not (ha : PE X a ta) : PE X (.UnaryOp .Not a pos) (tNotV ta) := by
  intro pins s σ H Q I h
  refine UnaryOp_ (thn (ha pins s σ H _ I h) fun v s1 ⟨x, H1, I1, r1, q1⟩ => ?_)
  obtain ⟨c, rfl, q1⟩ := q1
  cases r1
  exact not_of (wpAny_truthy_bool ⟨.bl (!c), H1, I1, rfl, q1⟩)
noncomputable def tIf (t : TT) (ta tb : TE) : TE := fun σ H Q => t σ H fun c H1 => if c = true then ta σ H1 Q else tb σ H1 Q
theorem pe_ifExp {c : Expr} (hc : PT X c tA) (ha : PE X a ta) (hb : PE X b tb) : PE X (.IfExp c a b pos) (tIf tA ta tb) := by
  intro pins s σ H Q I h
  refine wpAny_IfExp (thn (hc pins s σ H _ I h) fun d s1 ⟨H1, I1, q1⟩ => ?_)
  cases d with
  | true => exact ha pins s1 σ H1 Q I1 q1
  | false => exact hb pins s1 σ H1 Q I1 q1
end
end L2
namespace L2
open PySem PySem.Spec PyProof.Rows
noncomputable def SqL (K : PySem.W.Frag) (H : Hp) (a : Addr) (xs : List V) : Prop :=
  Rd H a (.lst xs) ∨
    ∃ (o : Obj) (its : Array Value) (n : Nat), K.lookup a = some o ∧ o.cls = .type "list" ∧ o.dict = none ∧ o.data = .seq its n ∧ its.size ≤ sizeLine ∧ Vals xs its.toList
noncomputable def SqT (K : PySem.W.Frag) (H : Hp) (a : Addr) (xs : List V) : Prop :=
  Rd H a (.tup xs) ∨
    ∃ (o : Obj) (its : Array Value) (n : Nat), K.lookup a = some o ∧ o.cls = .type "tuple" ∧ o.data = .seq its n ∧ its.size ≤ sizeLine ∧ Vals xs its.toList
noncomputable def absV : Value → Option V
  | .none => some .non
  | .bool b => some (.bl b)
  | .int i _ => some (.int i)
  | .str x _ => some (.str x)
  | .bytes b _ => some (.byt b)
  | .float b _ => some (.flt b)
  | .ref a => some (.ref a)
  | .type n => some (.ty n)
  | _ => none
theorem RelV.abs {x : V} {u : Value} (r : RelV x u) : absV u = some x := by
  cases x with
  | non => cases r; rfl
  | bl _ => cases r; rfl
  | int _ => obtain ⟨t, rfl⟩ := r; rfl
  | str _ => obtain ⟨t, rfl⟩ := r; rfl
  | byt _ => obtain ⟨t, rfl⟩ := r; rfl
  | flt _ => obtain ⟨t, rfl⟩ := r; rfl
  | ref _ => cases r; rfl
  | ty _ => cases r; rfl
theorem RelV.inj {x y : V} {u : Value} (r : RelV x u) (q : RelV y u) : x = y := Option.some.inj (r.abs.symm.trans q.abs)
theorem Vals.inj : ∀ {xs ys : List V} {us : List Value}, Vals xs us → Vals ys us → xs = ys
  | _, _, _, .nil, .nil => rfl
  | _, _, _, .cons r t, .cons r' t' => by rw [r.inj r', Vals.inj t t']
section
variable {X : Cx} {pins : List (Addr × Obj)} {σ : St} {H : Hp} {s : Shared} {a : Addr} {xs ys : List V}
theorem SqL.of {K : PySem.W.Frag} (h : H a = some (.lst xs)) : SqL K H a xs := .inl (.inl h)
theorem SqT.of {K : PySem.W.Frag} (h : H a = some (.tup xs)) : SqT K H a xs := .inl (.inl h)
theorem Inv.list (I : Inv X pins σ H s) (h : SqL X.K H a xs) : ∃ its : List Value, Vals xs its ∧ PlainL s.heap a its.toArray ∧ xs.length ≤ sizeLine := by
  rcases h with h | ⟨o, its, n, hk, hc, hd, hs, hz, r⟩
  · obtain ⟨z, its, n, r, e⟩ := h.ok I.hok
    exact ⟨its, r, ⟨_, n, e, rfl, rfl, rfl⟩, z⟩
  · refine ⟨its.toList, r, ⟨o, n, I.kIn a o hk, hc, hd, by simpa using hs⟩, ?_⟩
    have e := r.length
    simp only [Array.length_toList] at e
    omega
theorem Inv.tuple (I : Inv X pins σ H s) (h : SqT X.K H a xs) : ∃ its : List Value, Vals xs its ∧ IsTup s.heap a its.toArray ∧ xs.length ≤ sizeLine := by
  rcases h with h | ⟨o, its, n, hk, hc, hs, hz, r⟩
  · obtain ⟨z, its, r, p⟩ := h.ok I.hok
    exact ⟨its, r, p, z⟩
  · refine ⟨its.toList, r, ⟨o, I.kIn a o hk, hc, n, by simpa using hs⟩, ?_⟩
    have e := r.length
    simp only [Array.length_toList] at e
    omega
theorem Inv.list_inj (I : Inv X pins σ H s) (h : SqL X.K H a xs) (h' : SqL X.K H a ys) : xs = ys := by
  obtain ⟨its, r, ⟨o, n, e, _, _, d⟩, _⟩ := I.list h
  obtain ⟨its', r', ⟨o', n', e', _, _, d'⟩, _⟩ := I.list h'
  rw [e] at e'; cases e'
  rw [d] at d'
  injection d' with d1 _
  have : its = its' := by simpa using congrArg Array.toList d1
  subst this
  exact r.inj r'
theorem Inv.tuple_inj (I : Inv X pins σ H s) (h : SqT X.K H a xs) (h' : SqT X.K H a ys) : xs = ys := by
  obtain ⟨its, r, ⟨o, e, _, n, d⟩, _⟩ := I.tuple h
  obtain ⟨its', r', ⟨o', e', _, n', d'⟩, _⟩ := I.tuple h'
  rw [e] at e'; cases e'
  rw [d] at d'
  injection d' with d1 _
  have : its = its' := by simpa using congrArg Array.toList d1
  subst this
  exact r.inj r'
end
noncomputable abbrev Cx.wish (X : Cx) (E : Value → Shared → Prop) : Cx := { X with xe := E }
noncomputable abbrev Cx.nox (X : Cx) : Cx := X.wish fun _ _ => False
theorem Cx.Ok.wish {X : Cx} (ok : X.Ok) (E : Value → Shared → Prop) : (X.wish E).Ok :=
  ⟨ok.mod, ok.kind, ok.glob, ok.blt, ok.above, ok.inj, ok.has, ok.cab, ok.hd, ok.frames, ok.stk, ok.exf, ok.bs, ok.bsz, ok.noex, ok.exfs, ok.funs, ok.frf⟩
theorem Cx.Ok.unwish {X : Cx} {E : Value → Shared → Prop} (ok : (X.wish E).Ok) : X.Ok :=
  ⟨ok.mod, ok.kind, ok.glob, ok.blt, ok.above, ok.inj, ok.has, ok.cab, ok.hd, ok.frames, ok.stk, ok.exf, ok.bs, ok.bsz, ok.noex, ok.exfs, ok.funs, ok.frf⟩
section
variable {X : Cx} {pins : List (Addr × Obj)} {σ : St} {H : Hp} {s : Shared} {E : Value → Shared → Prop}
theorem Inv.wish (I : Inv X pins σ H s) (E : Value → Shared → Prop) : Inv (X.wish E) pins σ H s := ⟨I.ok.wish E, I.os, I.bare, I.base, I.loc, I.cell, I.free, I.freeC, I.pin, I.hok, I.len⟩
theorem Inv.unwish (I : Inv (X.wish E) pins σ H s) : Inv X pins σ H s := ⟨I.ok.unwish, I.os, I.bare, I.base, I.loc, I.cell, I.free, I.freeC, I.pin, I.hok, I.len⟩
theorem SP.unwish {D : Ends} {f : Flow} {s' : Shared} (h : SP (X.wish E) pins D f s') : SP X pins D f s' := by
  cases f with
  | next => obtain ⟨σ', H', I, q⟩ := h; exact ⟨σ', H', I.unwish, q⟩
  | brk => obtain ⟨σ', H', I, q⟩ := h; exact ⟨σ', H', I.unwish, q⟩
  | cont => obtain ⟨σ', H', I, q⟩ := h; exact ⟨σ', H', I.unwish, q⟩
  | ret u => obtain ⟨v, σ', H', I, r, q⟩ := h; exact ⟨v, σ', H', I.unwish, r, q⟩
theorem PE.nox {e : Expr} {t : TE} (h : PE X.nox e t) : PE X e t := fun pins s σ H Q I hw =>
  wpAny_mono (h pins s σ H Q (I.wish _) hw) (fun _ _ ⟨v, H', I', r, q⟩ => ⟨v, H', I'.unwish, r, q⟩) fun _ _ z => False.elim z
theorem PT.nox {e : Expr} {t : TT} (h : PT X.nox e t) : PT X e t := fun pins s σ H Q I hw =>
  wpAny_mono (h pins s σ H Q (I.wish _) hw) (fun _ _ ⟨H', I', q⟩ => ⟨H', I'.unwish, q⟩) fun _ _ z => False.elim z
theorem PSs.nox {st : List Stmt} {t : TS} (h : PSs X.nox st t) : PSs X st t := fun pins s σ H D I hw =>
  wpAny_mono (h pins s σ H D (I.wish _) hw) (fun _ _ q => q.unwish) fun _ _ z => False.elim z
end
section
variable {X : Cx} {st : Stmt} {rest : List Stmt} {t u : TS} {e : Expr} {te : TE} {pos : Pos}
noncomputable def tNext : TS := fun D σ H => D.nx σ H
noncomputable def tSeq (t u : TS) : TS := fun D σ H => t { D with nx := u D } σ H
theorem pss_nil : PSs X [] tNext := fun _ _ σ H _ I h => wpAny_execs_nil ⟨σ, H, I, h⟩
theorem pss_cons (h1 : PS X st t) (h2 : PSs X rest u) : PSs X (st :: rest) (tSeq t u) := by
  intro pins s σ H D I h
  refine wpAny_execs_cons (thn (h1 pins s σ H { D with nx := u D } I h) fun f s1 q => ?_)
  cases f with
  | next =>
    obtain ⟨σ', H', I', q⟩ := q
    exact h2 pins s1 σ' H' D I' q
  | ret v => exact q
  | brk => exact q
  | cont => exact q
theorem pss_one (h1 : PS X st t) : PSs X [st] t := by
  intro pins s σ H D I h
  refine wpAny_execs_cons (thn (h1 pins s σ H D I h) fun f s1 q => ?_)
  cases f with
  | next => exact wpAny_execs_nil q
  | ret v => exact q
  | brk => exact q
  | cont => exact q
theorem Inv.quiet {pins : List (Addr × Obj)} {σ : St} {H : Hp} {s : Shared} (I : Inv X pins σ H s) : interactive X.env = false := by simp [interactive, I.ok.kind]
noncomputable def tDrop (te : TE) : TS := fun D σ H => te σ H fun _ H1 => D.nx σ H1
theorem ps_expr (he : PE X e te) (hs : swapsWith e none pos.line X.env = pure false := by rfl) : PS X (.Expr e pos) (tDrop te) := by
  intro pins s σ H D I h
  exact wpAny_Expr_any (thn (he pins s σ H _ I h) fun v s1 ⟨x, H1, I1, r1, q1⟩ => ⟨σ, H1, I1, q1⟩) I.quiet hs
noncomputable def tRet (te : TE) : TS := fun D σ H => te σ H D.rt
theorem ps_ret (he : PE X e te) : PS X (.Return (some e) pos) (tRet te) := by
  intro pins s σ H D I h
  exact wpAny_Return_some (thn (he pins s σ H _ I h) fun v s1 ⟨x, H1, I1, r1, q1⟩ => ⟨x, σ, H1, I1, r1, q1⟩)
noncomputable def tRetN : TS := fun D _ H => D.rt .non H
theorem ps_retN : PS X (.Return none pos) tRetN := fun _ _ σ H _ I h => wpAny_Return_none ⟨.non, σ, H, I, rfl, h⟩
noncomputable def tIfS (c : TT) (t u : TS) : TS := fun D σ H => c σ H fun b H1 => if b = true then t D σ H1 else u D σ H1
theorem ps_if {c : Expr} {a b : List Stmt} {tc : TT} (hc : PT X c tc) (ha : PSs X a t) (hb : PSs X b u) : PS X (.If c a b pos) (tIfS tc t u) := by
  intro pins s σ H D I h
  refine wpAny_If (thn (hc pins s σ H _ I h) fun d s1 ⟨H1, I1, q1⟩ => ?_)
  cases d with
  | true => exact ha pins s1 σ H1 D I1 q1
  | false => exact hb pins s1 σ H1 D I1 q1
end
noncomputable abbrev TG := V → St → Hp → (St → Hp → Prop) → Prop
noncomputable abbrev TGs := List V → St → Hp → (St → Hp → Prop) → Prop
noncomputable def PG (X : Cx) (target : Expr) (t : TG) : Prop :=
  ∀ (pins : List (Addr × Obj)) (s : Shared) (σ : St) (H : Hp) (v : V) (u : Value) (Q : St → Hp → Prop), Inv X pins σ H s → RelV v u → t v σ H Q →
    wpAny (model X.prog X.w) X.A (assign target X.env u) (fun _ s' => ∃ σ' H', Inv X pins σ' H' s' ∧ Q σ' H') X.xe s
noncomputable abbrev TSet := V → V → V → Hp → (Hp → Prop) → Prop
noncomputable def PSet (X : Cx) (t : TSet) : Prop :=
  ∀ (pins : List (Addr × Obj)) (s : Shared) (σ : St) (H : Hp) (o i v : V) (ov iv u : Value) (Q : Hp → Prop), Inv X pins σ H s → RelV o ov → RelV i iv → RelV v u → t o i v H Q →
    wpAny (model X.prog X.w) X.A (setItem ov iv u) (fun _ s' => ∃ H', Inv X pins σ H' s' ∧ Q H') X.xe s
section
variable {X : Cx} {pos : Pos}
noncomputable def gName (i : Nat) : TG := fun v σ H Q => Q (σ.set i (some v)) H
theorem pg_name {i : Nat} {x : Str} (hN : X.N.Nodup) (hi : X.N[i]? = some x) (hx : Loc X.env.scope x) (hf : X.fn x = true ∨ X.env.scope.names.lookup x = some .local := by first | exact .inl rfl | exact .inr rfl | assumption) : PG X (.Name x pos) (gName i) := by
  intro pins s σ H v u Q I r h
  exact wpAny_assign_Name (store_ok I hN hi hx r (fun s' I' => ⟨_, H, I', h⟩) hf)
noncomputable def gNil : TGs := fun vs σ H Q => vs = [] ∧ Q σ H
noncomputable def gCons (t : TG) (u : TGs) : TGs := fun vs σ H Q => ∃ v r, vs = v :: r ∧ t v σ H fun σ' H' => u r σ' H' Q
noncomputable def gTup (K : PySem.W.Frag) (n : Nat) (t : TGs) : TG := fun v σ H Q => ∃ a xs, v = .ref a ∧ SqT K H a xs ∧ xs.length = n ∧ t xs σ H Q
noncomputable def gSub (to ti : TE) (t : TSet) : TG := fun v σ H Q => to σ H fun o H1 => ti σ H1 fun i H2 => t o i v H2 fun H3 => Q σ H3
theorem pg_sub {o i : Expr} {to ti : TE} {t : TSet} (ho : PE X o to) (hi : PE X i ti) (hs : PSet X t)
    (ha : ∀ v, assign (.Subscript o i pos) X.env v = (do
      let ov ← holding [v] (eval o X.env)
      let iv ← holding [v, ov] (eval i X.env)
      standAt pos
      holding [v, ov, iv] (setItem ov iv v)
      release [v, ov, iv] []) := by intro _; rfl) : PG X (.Subscript o i pos) (gSub to ti t) := by
  intro pins s σ H v u Q I r h
  rw [ha]
  refine wpAny_bind (wpAny_holding (thn (ho pins s σ H _ I h) fun ov s1 ⟨x, H1, I1, r1, q1⟩ => ?_))
  refine wpAny_bind (wpAny_holding (thn (hi pins s1 σ H1 _ I1 q1) fun iv s2 ⟨y, H2, I2, r2, q2⟩ => ?_))
  refine wpAny_bind (wpAny_standAt (wpAny_bind (wpAny_holding (thn (hs pins s2 σ H2 x y v ov iv u _ I2 r1 r2 r q2) fun _ s3 ⟨H3, I3, q3⟩ => ?_))))
  exact wpAny_release ⟨σ, H3, I3, q3⟩
noncomputable def tAsg (te : TE) (g : TG) : TS := fun D σ H => te σ H fun x H1 => g x σ H1 D.nx
theorem ps_asg {tg e : Expr} {te : TE} {g : TG} (he : PE X e te) (hg : PG X tg g) (hs : swapsWithSole [tg] e pos.line X.env = pure false := by rfl) (hw : swappedStores [tg] e X.env = pure none := by rfl)
    (h1 : (assignEach [tg] X.env).map (·.2) = [assign tg X.env] := by rfl) : PS X (.Assign [tg] e pos) (tAsg te g) := by
  intro pins s σ H D I h
  refine wpAny_Assign_stores (thn (he pins s σ H _ I h) fun v s1 ⟨x, H1, I1, r1, q1⟩ => ?_) hs hw
  rw [h1]
  exact thn (hg pins s1 σ H1 x v _ I1 r1 q1) fun _ s2 q => q
theorem ps_set {i : Nat} {x : Str} {e : Expr} {te : TE} {pos' : Pos} (hN : X.N.Nodup) (hi : X.N[i]? = some x) (hx : Loc X.env.scope x) (he : PE X e te) (hs : swapsWith e (some (.Name x pos')) pos.line X.env = pure false := by rfl) (hf : X.fn x = true ∨ X.env.scope.names.lookup x = some .local := by first | exact .inl rfl | exact .inr rfl | assumption) :
    PS X (.Assign [.Name x pos'] e pos) (tAsg te (gName i)) := by
  intro pins s σ H D I h
  refine wpAny_Assign_Name (thn (he pins s σ H _ I h) fun v s1 ⟨y, H1, I1, r1, q1⟩ => ?_) hs
  exact store_ok I1 hN hi hx r1 (fun s2 I2 => ⟨_, H1, I2, q1⟩) hf
end
section
variable {X : Cx} {pos : Pos}
end
structure It where
  go : Nat → Hp → Prop
  yld : Nat → Hp → V → Hp → Prop
  stop : Nat → Hp → Prop
noncomputable def FpOk (X : Cx) (pins : List (Addr × Obj)) (H : Hp) (b : Addr) : Prop :=
  H b = none ∧ b ≠ X.env.locals ∧ b ∉ X.fs ∧ (b ∈ X.ex ∨ X.s₀.heap.objs.size ≤ b) ∧ (∀ x c, X.env.cells.lookup x = some c → c ≠ b) ∧ ∀ p ∈ X.pn ++ pins, p.1 ≠ b
theorem Inv.fpOk {X : Cx} {pins : List (Addr × Obj)} {σ : St} {H H' : Hp} {s : Shared} {b : Addr} (I : Inv X pins σ H s) (hb : s.heap.objs.size ≤ b) (hn : H' b = none) : FpOk X pins H' b := by
  refine ⟨hn, Nat.ne_of_gt (Nat.lt_of_lt_of_le I.lt hb), I.nofs hb, .inr (Nat.le_trans I.sz hb), fun x c e z => ?_, fun p hp z => ?_⟩
  · obtain ⟨v, q⟩ := I.cell x c e
    exact absurd (Nat.lt_of_lt_of_le q.lt (by rw [z]; exact hb)) (Nat.lt_irrefl _)
  · exact absurd (Nat.lt_of_lt_of_le (Heap.lt_size (I.pin p hp).1) (by rw [z]; exact hb)) (Nat.lt_irrefl _)
structure Turn (P : Program) (w : World) (K : PySem.W.Frag) (tg : Expr) (J : It) (fp : List Addr) (it : Addr) (tn : Nat → Heap → Prop) : Prop where
  mem : it ∈ fp
  obj : ∀ i h, tn i h → ∀ b ∈ fp, ∃ o, h.get? b = some o ∧ ∀ v, o.data ≠ .cell v
  keep : ∀ i h h', tn i h → (∀ b ∈ fp, ∀ o, h.get? b = some o → h'.get? b = some o) → tn i h'
  item : ∀ (X : Cx), X.prog = P → X.w = w → X.K = K → X.calm = true → ∀ (i : Nat) (pins : List (Addr × Obj)) (s : Shared) (σ : St) (H : Hp) (E : Value → Shared → Prop), Inv X pins σ H s → (∀ b ∈ fp, FpOk X pins H b) → tn i s.heap → J.go i H →
    wpAny (model P w) X.A (pyNext (.ref it)) (fun r s1 => ∃ u, r = some u ∧
      wpAny (model P w) X.A (letOwnedTupleGo tg (.ref it) u) (fun _ s2 => ∃ x H', Inv X pins σ H' s2 ∧ RelV x u ∧ J.yld i H x H' ∧ tn (i + 1) s2.heap ∧ ∀ b ∈ fp, H' b = none) E s1) E s
  done : ∀ (X : Cx), X.prog = P → X.w = w → X.K = K → X.calm = true → ∀ (i : Nat) (pins : List (Addr × Obj)) (s : Shared) (σ : St) (H : Hp) (E : Value → Shared → Prop), Inv X pins σ H s → (∀ b ∈ fp, FpOk X pins H b) → tn i s.heap → J.stop i H →
    wpAny (model P w) X.A (pyNext (.ref it)) (fun r s1 => r = none ∧ Inv X pins σ H s1) E s
  self : ∀ (A : Around) (i : Nat) (s : Shared) (Q : Value → Shared → Prop) (E : Value → Shared → Prop), tn i s.heap → Q (.ref it) s → wpAny (model P w) A (pyIter (.ref it)) Q E s
noncomputable abbrev TI := St → Hp → (It → Hp → Prop) → Prop
noncomputable def PIE (X : Cx) (pins : List (Addr × Obj)) (σ : St) (tg : Expr) (R : It → Hp → Prop) (itv : Value) (s2 : Shared) : Prop :=
  ∃ (it : Addr) (fp : List Addr) (tn : Nat → Heap → Prop) (J : It) (H' : Hp), itv = .ref it ∧ Inv X pins σ H' s2 ∧ Turn X.prog X.w X.K tg J fp it tn ∧ tn 0 s2.heap ∧ (∀ b ∈ fp, FpOk X pins H' b) ∧ R J H'
noncomputable def PI (X : Cx) (tg iter : Expr) (wi : TI) : Prop :=
  ∀ (pins : List (Addr × Obj)) (s : Shared) (σ : St) (H : Hp) (R : It → Hp → Prop), Inv X pins σ H s → wi σ H R →
    wpAny (model X.prog X.w) X.A (eval iter X.env) (fun v s1 => wpAny (model X.prog X.w) X.A (pyIter v) (PIE X pins σ tg R) X.xe s1) X.xe s
theorem go_of {M : Model} {A : Around} {E : Value → Shared → Prop} {s : Shared} {tg : Expr} {it : Addr} {u : Value} {o : Obj} {n : String} {vs : Array Value} {Q : Unit → Shared → Prop} (ho : s.heap.get? it = some o) (hc : o.cls = .type n) (hd : o.data = .fields vs)
    (hn : ["enumerate", "zip", "dict_itemiterator", "dict_reverseitemiterator", "odict_iterator", "itertools.zip_longest", "itertools.pairwise"].contains n = false) (hQ : Q () s) : wpAny M A (letOwnedTupleGo tg (.ref it) u) Q E s := by
  unfold letOwnedTupleGo
  cases tg <;> first
    | exact wpAny_pure hQ
    | (cases u <;> first
        | exact wpAny_pure hQ
        | (refine wpAny_bind (wpAny_load ho ?_)
           rw [hc, hd]
           show wpAny M A (if (["enumerate", "zip", "dict_itemiterator", "dict_reverseitemiterator", "odict_iterator", "itertools.zip_longest", "itertools.pairwise"].contains n && vs[0]? == some (rawInt _)) = true then _ else _) Q E s
           rw [if_neg (by intro h; rw [hn, Bool.false_and] at h; cases h)]
           exact wpAny_pure hQ))
noncomputable def Itl (K : PySem.W.Frag) (a : Addr) : It :=
  ⟨fun i H => ∃ xs x, SqL K H a xs ∧ xs[i]? = some x, fun i H x H' => H' = H ∧ ∀ xs, SqL K H a xs → xs[i]? = some x, fun i H => ∃ xs, SqL K H a xs ∧ xs.length ≤ i⟩
noncomputable def Itt (K : PySem.W.Frag) (a : Addr) : It :=
  ⟨fun i H => ∃ xs x, SqT K H a xs ∧ xs[i]? = some x, fun i H x H' => H' = H ∧ ∀ xs, SqT K H a xs → xs[i]? = some x, fun i H => ∃ xs, SqT K H a xs ∧ xs.length ≤ i⟩
theorem turn_list {P : Program} {w : World} {K : PySem.W.Frag} {tg : Expr} (a it : Addr) : Turn P w K tg (Itl K a) [it] it (fun i h => h.IsListIter it a i) where
  mem := by simp
  obj := fun i h st b hb => by
    have e : b = it := by simpa using hb
    subst e
    obtain ⟨o, e, c, d⟩ := st
    exact ⟨o, e, fun v z => by rw [d] at z; cases z⟩
  keep := fun i h h' st k => st.at fun o e => k it (by simp) o e
  item := by
    intro X hP hw hK hc i pins s σ H E I hf st hg
    subst hP hw hK
    obtain ⟨xs, x, hq, hx⟩ := hg
    obtain ⟨its, rv, p, hz⟩ := I.list hq
    obtain ⟨u, hu, ru⟩ := rv.get hx
    obtain ⟨f0, f1, f2, f3, f4, f5⟩ := hf it (by simp)
    refine wpAny_pyNext_list_item st p.isList (x := u) (by simpa using hu) fun h' st' sb => ?_
    have I1 : Inv X pins σ H { s with heap := h' } := I.turned (t' := s.toks) (fun b o hb e => (sb.2 b hb).trans e) f0 f1 f3 f4 f5
    obtain ⟨o, e, c, d⟩ := id st'
    exact ⟨u, rfl, go_of (s := { s with heap := h' }) e c d (by decide) ⟨x, H, I1, ru, ⟨rfl, fun ys hy => by rw [I.list_inj hy hq]; exact hx⟩, st', fun b hb => (hf b hb).1⟩⟩
  done := by
    intro X hP hw hK hc i pins s σ H E I hf st hg
    subst hP hw hK
    obtain ⟨xs, hq, hx⟩ := hg
    obtain ⟨its, rv, p, hz⟩ := I.list hq
    obtain ⟨f0, f1, f2, f3, f4, f5⟩ := hf it (by simp)
    have hl := rv.length
    exact wpAny_pyNext_list_end (I.ok.hd hc) st p.isList (by simp; omega) fun h' eb => ⟨rfl, I.turned (t' := s.toks) (fun b o hb e => eb b o hb e) f0 f1 f3 f4 f5⟩
  self := fun _ _ _ _ _ st h => wpAny_pyIter_listiter st h
theorem turn_tuple {P : Program} {w : World} {K : PySem.W.Frag} {tg : Expr} (a it : Addr) : Turn P w K tg (Itt K a) [it] it (fun i h => h.IsTupleIter it a i) where
  mem := by simp
  obj := fun i h st b hb => by
    have e : b = it := by simpa using hb
    subst e
    obtain ⟨o, e, c, d⟩ := st
    exact ⟨o, e, fun v z => by rw [d] at z; cases z⟩
  keep := fun i h h' st k => st.at fun o e => k it (by simp) o e
  item := by
    intro X hP hw hK hc i pins s σ H E I hf st hg
    subst hP hw hK
    obtain ⟨xs, x, hq, hx⟩ := hg
    obtain ⟨its, rv, p, hz⟩ := I.tuple hq
    obtain ⟨u, hu, ru⟩ := rv.get hx
    obtain ⟨f0, f1, f2, f3, f4, f5⟩ := hf it (by simp)
    refine wpAny_pyNext_tuple_item st (show s.heap.IsTuple a its.toArray from p) (x := u) (by simpa using hu) fun h' st' sb => ?_
    have I1 : Inv X pins σ H { s with heap := h' } := I.turned (t' := s.toks) (fun b o hb e => (sb.2 b hb).trans e) f0 f1 f3 f4 f5
    obtain ⟨o, e, c, d⟩ := id st'
    exact ⟨u, rfl, go_of (s := { s with heap := h' }) e c d (by decide) ⟨x, H, I1, ru, ⟨rfl, fun ys hy => by rw [I.tuple_inj hy hq]; exact hx⟩, st', fun b hb => (hf b hb).1⟩⟩
  done := by
    intro X hP hw hK hc i pins s σ H E I hf st hg
    subst hP hw hK
    obtain ⟨xs, hq, hx⟩ := hg
    obtain ⟨its, rv, p, hz⟩ := I.tuple hq
    obtain ⟨f0, f1, f2, f3, f4, f5⟩ := hf it (by simp)
    have hl := rv.length
    exact wpAny_pyNext_tuple_end (I.ok.hd hc) st (show s.heap.IsTuple a its.toArray from p) (by simp; omega) fun h' eb => ⟨rfl, I.turned (t' := s.toks) (fun b o hb e => eb b o hb e) f0 f1 f3 f4 f5⟩
  self := fun _ _ _ _ _ st h => wpAny_pyIter_tupleiter st h
end L2
namespace L2
open PySem PySem.Spec PyProof.Rows
section
variable {X : Cx} {tg : Expr}
noncomputable def iTup (K : PySem.W.Frag) (tl : TE) : TI := fun σ H R => tl σ H fun x H1 => ∃ a, x = .ref a ∧ (∃ xs, SqT K H1 a xs) ∧ R (Itt K a) H1
noncomputable def tFor (wi : TI) (g : TG) (tb : TS) : TS := fun D σ H => wi σ H fun J H1 => ∃ W : Nat → Nat → St → Hp → Prop, (∃ m, W 0 m σ H1) ∧ ∀ i m σ H, W i m σ H →
  (J.stop i H ∧ D.nx σ H) ∨ (J.go i H ∧ ∃ N : St → Hp → Prop, (∀ σ' H', N σ' H' → ∃ m', m' < m ∧ W (i + 1) m' σ' H') ∧ ∀ x H', J.yld i H x H' → g x σ H' fun σ2 H2 => tb { D with nx := N, ct := N, bk := D.nx } σ2 H2)
noncomputable def pinsAt (fp : List Addr) (h : Heap) : List (Addr × Obj) := fp.filterMap fun b => (h.get? b).map fun o => (b, o)
theorem mem_pinsAt {fp : List Addr} {h : Heap} {b : Addr} {o : Obj} (hb : b ∈ fp) (e : h.get? b = some o) : (b, o) ∈ pinsAt fp h := List.mem_filterMap.mpr ⟨b, hb, by rw [e]; rfl⟩
theorem of_pinsAt {fp : List Addr} {h : Heap} {p : Addr × Obj} (hp : p ∈ pinsAt fp h) : p.1 ∈ fp ∧ h.get? p.1 = some p.2 := by
  obtain ⟨b, hb, e⟩ := List.mem_filterMap.mp hp
  cases q : h.get? b with
  | none => rw [q] at e; cases e
  | some o =>
    rw [q] at e
    have e' : (b, o) = p := Option.some.inj e
    subst e'
    exact ⟨hb, q⟩
theorem Inv.pinned {pins : List (Addr × Obj)} {σ : St} {H : Hp} {s : Shared} {fp : List Addr} (I : Inv X pins σ H s) (hf : ∀ b ∈ fp, FpOk X pins H b) (ho : ∀ b ∈ fp, ∃ o, s.heap.get? b = some o ∧ ∀ v, o.data ≠ .cell v) : Inv X (pins ++ pinsAt fp s.heap) σ H s :=
  I.pins_of fun p hp => (List.mem_append.mp hp).elim (fun z => I.pin p (List.mem_append_right _ z)) fun z => by
    obtain ⟨hb, e⟩ := of_pinsAt z
    obtain ⟨f0, f1, f2, _⟩ := hf p.1 hb
    obtain ⟨o, e', d⟩ := ho p.1 hb
    rw [e] at e'; cases e'
    exact ⟨e, f0, f1, f2, d⟩
theorem Inv.unpinned {pins pl : List (Addr × Obj)} {σ : St} {H : Hp} {s : Shared} (I : Inv X (pins ++ pl) σ H s) : Inv X pins σ H s := I.pins_of fun p hp => I.pin p (List.mem_append_right _ (List.mem_append_left _ hp))
theorem ps_for {iter : Expr} {body : List Stmt} {wi : TI} {g : TG} {tb : TS} {pos : Pos} (hp : PassesOwn (model X.prog X.w) X.A X.env X.xe) (hc : X.calm = true) (hi : PI X tg iter wi) (hg : PG X tg g) (hb : PSs X body tb)
    (hs : ∀ x, foldedSetIterable iter X.env x = pure x := by intro _; rfl) : PS X (.For tg iter body [] pos) (tFor wi g tb) := by
  intro pins s σ H D I h
  refine wpAny_For (thn (hi pins s σ H _ I h) fun v s1 h1 => thn h1 fun itv s2 h2 => ?_) hs
  obtain ⟨it, fp, tn, J, H2, e, I2, T, st2, f2, W, ⟨m0, w0⟩, turn⟩ := h2
  subst e
  -- what stays true of the iterator's objects through the loop
  have stat : ∀ {H' : Hp}, (∀ b ∈ fp, H' b = none) → ∀ b ∈ fp, FpOk X pins H' b := fun hn b hb => ⟨hn b hb, (f2 b hb).2⟩
  refine codeAny_forLoop_any (fun n s' => ∃ i σ' H', Inv X pins σ' H' s' ∧ tn i s'.heap ∧ (∀ b ∈ fp, H' b = none) ∧ W i n σ' H') ?_ m0 ⟨0, σ, H2, I2, st2, fun b hb => (f2 b hb).1, w0⟩
  rintro n s3 ⟨i, σ3, H3, I3, st3, fr3, w3⟩
  rcases turn i n σ3 H3 w3 with ⟨stop, qn⟩ | ⟨go, N, hN, step⟩
  · refine wpAny_passesOwn hp (thn (T.done X rfl rfl rfl hc i pins s3 σ3 H3 X.xe I3 (stat fr3) st3 stop) fun r s4 ⟨hr, I4⟩ => ?_)
    subst hr
    exact wpAny_execs_nil ⟨σ3, H3, I4, qn⟩
  · refine wpAny_passesOwn hp (thn (T.item X rfl rfl rfl hc i pins s3 σ3 H3 X.xe I3 (stat fr3) st3 go) fun r s4 ⟨u, hr, h4⟩ => ?_)
    subst hr
    refine wpAny_passesOwn hp (thn h4 fun _ s5 ⟨x, H5, I5, r5, y5, st5, fr5⟩ => ?_)
    have I5' := I5.pinned (stat fr5) (T.obj _ _ st5)
    refine wpAny_passesOwn hp (thn (hg _ s5 σ3 H5 x u _ I5' r5 (step x H5 y5)) fun _ s6 ⟨σ6, H6, I6, q6⟩ => ?_)
    refine wpAny_passesOwn hp (thn (hb _ s6 σ6 H6 _ I6 q6) fun f s7 q7 => ?_)
    have again : ∀ {σ7 : St} {H7 : Hp}, Inv X (pins ++ pinsAt fp s5.heap) σ7 H7 s7 → N σ7 H7 → ∃ m, m < n ∧ ∃ i σ' H', Inv X pins σ' H' s7 ∧ tn i s7.heap ∧ (∀ b ∈ fp, H' b = none) ∧ W i m σ' H' := fun {σ7 H7} I7 n7 => by
      obtain ⟨m', hm, w7⟩ := hN σ7 H7 n7
      refine ⟨m', hm, i + 1, σ7, H7, I7.unpinned, T.keep _ _ _ st5 fun b hb o e => (I7.pin (b, o) (List.mem_append_right _ (List.mem_append_right _ (mem_pinsAt hb e)))).1, fun b hb => ?_, w7⟩
      obtain ⟨o, e, d⟩ := T.obj _ _ st5 b hb
      exact (I7.pin (b, o) (List.mem_append_right _ (List.mem_append_right _ (mem_pinsAt hb e)))).2.1
    cases f with
    | next => obtain ⟨σ7, H7, I7, n7⟩ := q7; exact again I7 n7
    | cont => obtain ⟨σ7, H7, I7, n7⟩ := q7; exact again I7 n7
    | brk => obtain ⟨σ7, H7, I7, q7⟩ := q7; exact ⟨σ7, H7, I7.unpinned, q7⟩
    | ret v => obtain ⟨x7, σ7, H7, I7, r7, q7⟩ := q7; exact ⟨x7, σ7, H7, I7.unpinned, r7, q7⟩
end
end L2
namespace L2
open PySem PySem.Spec PyProof.Rows
noncomputable abbrev R2 := V → V → Hp → VK → Prop
noncomputable def OpR (X : Cx) (f : Value → Value → Sem Value) (r : R2) : Prop :=
  ∀ (pins : List (Addr × Obj)) (s : Shared) (σ : St) (H : Hp) (x y : V) (v u : Value) (Q : VK), Inv X pins σ H s → RelV x v → RelV y u → r x y H Q →
    wpAny (model X.prog X.w) X.A (f v u) (EP X pins σ Q) X.xe s
noncomputable def UnR (X : Cx) (f : Value → Sem Value) (r : V → Hp → VK → Prop) : Prop :=
  ∀ (pins : List (Addr × Obj)) (s : Shared) (σ : St) (H : Hp) (x : V) (v : Value) (Q : VK), Inv X pins σ H s → RelV x v → r x H Q →
    wpAny (model X.prog X.w) X.A (f v) (EP X pins σ Q) X.xe s
noncomputable def CallR (X : Cx) (f : Value) (r : List V → Hp → VK → Prop) : Prop :=
  ∀ (pins : List (Addr × Obj)) (s : Shared) (σ : St) (H : Hp) (xs : List V) (us : List Value) (Q : VK), Inv X pins σ H s → Vals xs us → r xs H Q →
    wpAny (model X.prog X.w) X.A (call f us) (EP X pins σ Q) X.xe s
noncomputable def TruR (X : Cx) (r : V → Hp → (Bool → Hp → Prop) → Prop) : Prop :=
  ∀ (pins : List (Addr × Obj)) (s : Shared) (σ : St) (H : Hp) (x : V) (v : Value) (Q : Bool → Hp → Prop), Inv X pins σ H s → RelV x v → r x H Q →
    wpAny (model X.prog X.w) X.A (truthy v) (TP X pins σ Q) X.xe s
noncomputable def tOp (r : R2) (ta tb : TE) : TE := fun σ H Q => ta σ H fun x H1 => tb σ H1 fun y H2 => r x y H2 Q
noncomputable def tUn (r : V → Hp → VK → Prop) (ta : TE) : TE := fun σ H Q => ta σ H fun x H1 => r x H1 Q
noncomputable def rI (C : Int → Int → Prop) (g : Int → Int → V) : R2 := fun x y H Q => ∃ i j, x = .int i ∧ y = .int j ∧ C i j ∧ Q (g i j) H
noncomputable def rI0 (g : Int → Int → V) : R2 := fun x y H Q => ∃ i j, x = .int i ∧ y = .int j ∧ Q (g i j) H
noncomputable def rU (g : Int → V) : V → Hp → VK → Prop := fun x H Q => ∃ i, x = .int i ∧ Q (g i) H
section
variable {X : Cx} {a b c : Expr} {ta tb tc : TE} {pos : Pos}
theorem binT (ha : PE X a ta) (hb : PE X b tb) {pins : List (Addr × Obj)} {s : Shared} {σ : St} {H : Hp} {R : V → V → Hp → Prop} (I : Inv X pins σ H s)
    (h : ta σ H fun x H1 => tb σ H1 fun y H2 => R x y H2) {Q : Value → Shared → Prop} {f : Value → Value → Sem Value}
    (hf : ∀ v u s2 x y H2, Inv X pins σ H2 s2 → RelV x v → RelV y u → R x y H2 → wpAny (model X.prog X.w) X.A (f v u) Q X.xe s2) :
    wpAny (model X.prog X.w) X.A (eval a X.env) (fun v s₁ => wpAny (model X.prog X.w) X.A (eval b X.env) (fun u s₂ => wpAny (model X.prog X.w) X.A (f v u) Q X.xe s₂) X.xe s₁) X.xe s := by
  refine thn (ha pins s σ H _ I h) fun v s1 ⟨x, H1, I1, r1, q1⟩ => ?_
  refine thn (hb pins s1 σ H1 _ I1 q1) fun u s2 ⟨y, H2, I2, r2, q2⟩ => ?_
  exact hf v u s2 x y H2 I2 r1 r2 q2
theorem pe_op {op : Operator} {r : R2} (ho : OpR X (binaryOp op) r) (ha : PE X a ta) (hb : PE X b tb) : PE X (.BinOp a op b pos) (tOp r ta tb) := by
  intro pins s σ H Q I h
  exact wpAny_BinOp (binT ha hb I h fun v u s2 x y H2 I2 rx ry q => ho pins s2 σ H2 x y v u Q I2 rx ry q)
theorem pe_un {op : UnaryOp} {r : V → Hp → VK → Prop} (ho : UnR X (unaryOp op) r) (ha : PE X a ta) : PE X (.UnaryOp op a pos) (tUn r ta) := by
  intro pins s σ H Q I h
  exact UnaryOp_ (thn (ha pins s σ H _ I h) fun v s1 ⟨x, H1, I1, r1, q1⟩ => ho pins s1 σ H1 x v Q I1 r1 q1)
theorem opI {f : Value → Value → Sem Value} {C : Int → Int → Prop} {g : Int → Int → Int}
    (rule : ∀ (i j : Int) (t u : Tok) (s : Shared) (Q : Value → Shared → Prop) (E : Value → Shared → Prop), C i j → Q (.int (g i j) s.toks) { s with toks := s.toks + 1 } → wpAny (model X.prog X.w) X.A (f (.int i t) (.int j u)) Q E s) :
    OpR X f (rI C fun i j => .int (g i j)) := by
  intro pins s σ H x y v u Q I rx ry h
  obtain ⟨i, j, rfl, rfl, hc, q⟩ := h
  obtain ⟨t, rfl⟩ := rx
  obtain ⟨t', rfl⟩ := ry
  exact rule i j t t' s _ _ hc ⟨.int (g i j), H, I.tok _, ⟨_, rfl⟩, q⟩
theorem opI0 {f : Value → Value → Sem Value} {g : Int → Int → Int}
    (rule : ∀ (i j : Int) (t u : Tok) (s : Shared) (Q : Value → Shared → Prop) (E : Value → Shared → Prop), Q (.int (g i j) s.toks) { s with toks := s.toks + 1 } → wpAny (model X.prog X.w) X.A (f (.int i t) (.int j u)) Q E s) :
    OpR X f (rI0 fun i j => .int (g i j)) := by
  intro pins s σ H x y v u Q I rx ry h
  obtain ⟨i, j, rfl, rfl, q⟩ := h
  obtain ⟨t, rfl⟩ := rx
  obtain ⟨t', rfl⟩ := ry
  exact rule i j t t' s _ _ ⟨.int (g i j), H, I.tok _, ⟨_, rfl⟩, q⟩
theorem opB0 {f : Value → Value → Sem Value} {g : Int → Int → Bool}
    (rule : ∀ (i j : Int) (t u : Tok) (s : Shared) (Q : Value → Shared → Prop) (E : Value → Shared → Prop), Q (.bool (g i j)) s → wpAny (model X.prog X.w) X.A (f (.int i t) (.int j u)) Q E s) :
    OpR X f (rI0 fun i j => .bl (g i j)) := by
  intro pins s σ H x y v u Q I rx ry h
  obtain ⟨i, j, rfl, rfl, q⟩ := h
  obtain ⟨t, rfl⟩ := rx
  obtain ⟨t', rfl⟩ := ry
  exact rule i j t t' s _ _ ⟨.bl (g i j), H, I, rfl, q⟩
noncomputable def CDiv (i j : Int) : Prop := 0 < j ∧ j < 1073741824
noncomputable def CDivN (i j : Int) : Prop := j ≠ 0 ∧ j.natAbs < 1073741824
noncomputable def CPow (i j : Int) : Prop := 0 ≤ j ∧ j ≤ 1000000 ∧ i.natAbs < 2 ^ 64
noncomputable def CMul (i j : Int) : Prop := (-(2 ^ 64) < i ∧ i < 2 ^ 64) ∨ (-(2 ^ 64) < j ∧ j < 2 ^ 64)
theorem CMul.ok {i j : Int} (h : CMul i j) : IntMulOk i j := by
  rcases h with ⟨h1, h2⟩ | ⟨h1, h2⟩
  · exact .of_left (intBits_le_64 h1 h2)
  · exact .of_right (intBits_le_64 h1 h2)
theorem op_add : OpR X (binaryOp .Add) (rI0 fun i j => .int (i + j)) := opI0 fun _ _ _ _ _ _ _ q => add_int q
theorem op_sub : OpR X (binaryOp .Sub) (rI0 fun i j => .int (i - j)) := opI0 fun _ _ _ _ _ _ _ q => sub_int q
theorem op_mul : OpR X (binaryOp .Mult) (rI CMul fun i j => .int (i * j)) := opI fun _ _ _ _ _ _ _ hc q => mul_int q hc.ok
theorem op_fdiv : OpR X (binaryOp .FloorDiv) (rI CDiv fun i j => .int (i / j)) := opI fun i j _ _ _ _ _ hc q => by
  have h1 : (0 : Int) < j := hc.1
  have h2 : j < 1073741824 := hc.2
  exact floordiv_int (by omega) (by rw [Int.fdiv_eq_ediv_of_nonneg i (by omega)]; exact q) (.inl (PyProof.noPylong_small (by omega)))
theorem op_fdivN : OpR X (binaryOp .FloorDiv) (rI CDivN fun i j => .int (i.fdiv j)) := opI fun _ _ _ _ _ _ _ hc q => floordiv_int hc.1 q (.inl (PyProof.noPylong_small hc.2))
theorem op_mod : OpR X (binaryOp .Mod) (rI (fun _ j => 0 < j) fun i j => .int (i % j)) := opI fun i j _ _ _ _ _ hc q => by
  have h1 : (0 : Int) < j := hc
  exact mod_int' (by omega) (by rw [Int.fmod_eq_emod_of_nonneg i (by omega)]; exact q)
theorem op_modN : OpR X (binaryOp .Mod) (rI (fun _ j => j ≠ 0) fun i j => .int (i.fmod j)) := opI fun _ _ _ _ _ _ _ hc q => mod_int' hc q
theorem op_pow : OpR X (binaryOp .Pow) (rI CPow fun i j => .int (i ^ j.toNat)) := opI fun _ _ _ _ _ _ _ hc q => pow_int_small hc.1 hc.2.1 hc.2.2 q
theorem unI {f : Value → Sem Value} {g : Int → Int}
    (rule : ∀ (i : Int) (t : Tok) (s : Shared) (Q : Value → Shared → Prop) (E : Value → Shared → Prop), Q (.int (g i) s.toks) { s with toks := s.toks + 1 } → wpAny (model X.prog X.w) X.A (f (.int i t)) Q E s) :
    UnR X f (rU fun i => .int (g i)) := by
  intro pins s σ H x v Q I rx h
  obtain ⟨i, rfl, q⟩ := h
  obtain ⟨t, rfl⟩ := rx
  exact rule i t s _ _ ⟨.int (g i), H, I.tok _, ⟨_, rfl⟩, q⟩
theorem un_neg : UnR X (unaryOp .USub) (rU fun i => .int (-i)) := unI fun _ _ _ _ _ q => neg_int q
end
noncomputable def scal : V → V → Bool
  | .non, .non => true | .non, .int _ => true | .int _, .non => true | .non, .bl _ => true | .bl _, .non => true | .non, .str _ => true | .str _, .non => true
  | .int _, .int _ => true | .bl _, .bl _ => true | .str _, .str _ => true | .byt _, .byt _ => true
  | .int _, .str _ => true | .str _, .int _ => true | .bl _, .str _ => true | .str _, .bl _ => true
  | _, _ => false
noncomputable def rEq : R2 := fun x y H Q => scal x y = true ∧ Q (.bl (decide (x = y))) H
noncomputable def rNe : R2 := fun x y H Q => scal x y = true ∧ Q (.bl (!decide (x = y))) H
theorem dec_int {i j : Int} : decide (V.int i = V.int j) = (i == j) := by
  rw [Bool.eq_iff_iff]
  simp
theorem dec_bl {i j : Bool} : decide (V.bl i = V.bl j) = (i == j) := by
  rw [Bool.eq_iff_iff]
  simp
theorem dec_str {i j : Str} : decide (V.str i = V.str j) = (i == j) := by
  rw [Bool.eq_iff_iff]
  simp
theorem dec_byt {i j : Array UInt8} : decide (V.byt i = V.byt j) = (i.toList == j.toList) := by
  rw [Bool.eq_iff_iff]
  cases i
  cases j
  simp
section
variable {X : Cx} {a b c : Expr} {ta tb tc : TE} {pos : Pos}
theorem fin_bl {pins : List (Addr × Obj)} {σ : St} {H : Hp} {s : Shared} {Q : VK} {k k' : Bool} (I : Inv X pins σ H s) (q : Q (.bl k) H) (e : k = k') : EP X pins σ Q (.bool k') s := by
  subst e
  exact ⟨.bl k, H, I, rfl, q⟩
theorem op_eq : OpR X (compareOp .Eq) rEq := by
  intro pins s σ H x y v u Q I rx ry h
  obtain ⟨hs, q⟩ := h
  cases x with
  | non =>
    cases rx
    cases y with
    | non => cases ry; exact PySem.EqNone.eq_none_none (fin_bl I q (by simp))
    | bl j => cases ry; exact PySem.EqNone.eq_none_bool (fin_bl I q (by simp))
    | int j => obtain ⟨t', rfl⟩ := ry; exact PySem.EqNone.eq_none_int (fin_bl I q (by simp))
    | str j => obtain ⟨t', rfl⟩ := ry; exact PySem.EqNone.eq_none_str (fin_bl I q (by simp))
    | _ => exact absurd (show false = true from hs) Bool.false_ne_true
  | bl i =>
    cases rx
    cases y with
    | non => cases ry; exact PySem.EqNone.eq_bool_none (fin_bl I q (by simp))
    | bl j => cases ry; exact eq_bool (fin_bl I q dec_bl)
    | str j => obtain ⟨t', rfl⟩ := ry; exact PySem.EqMixed.eq_bool_str (fin_bl I q (by simp))
    | _ => exact absurd (show false = true from hs) Bool.false_ne_true
  | int i =>
    obtain ⟨t, rfl⟩ := rx
    cases y with
    | non => cases ry; exact PySem.EqNone.eq_int_none (fin_bl I q (by simp))
    | int j => obtain ⟨t', rfl⟩ := ry; exact eq_int (fin_bl I q dec_int)
    | str j => obtain ⟨t', rfl⟩ := ry; exact PySem.EqMixed.eq_int_str (fin_bl I q (by simp))
    | _ => exact absurd (show false = true from hs) Bool.false_ne_true
  | str i =>
    obtain ⟨t, rfl⟩ := rx
    cases y with
    | non => cases ry; exact PySem.EqNone.eq_str_none (fin_bl I q (by simp))
    | bl j => cases ry; exact PySem.EqMixed.eq_str_bool (fin_bl I q (by simp))
    | int j => obtain ⟨t', rfl⟩ := ry; exact PySem.EqMixed.eq_str_int (fin_bl I q (by simp))
    | str j => obtain ⟨t', rfl⟩ := ry; exact eq_str (fin_bl I q dec_str)
    | _ => exact absurd (show false = true from hs) Bool.false_ne_true
  | byt i =>
    obtain ⟨t, rfl⟩ := rx
    cases y with
    | byt j => obtain ⟨t', rfl⟩ := ry; exact PySem.W.eq_bytes (fin_bl I q dec_byt)
    | _ => exact absurd (show false = true from hs) Bool.false_ne_true
  | _ => cases y <;> exact absurd (show false = true from hs) Bool.false_ne_true
theorem op_ne : OpR X (compareOp .NotEq) rNe := by
  intro pins s σ H x y v u Q I rx ry h
  obtain ⟨hs, q⟩ := h
  cases x with
  | non =>
    cases rx
    cases y with
    | non => cases ry; exact PySem.EqNone.ne_none_none (fin_bl I q (by simp))
    | bl j => cases ry; exact PySem.EqNone.ne_none_bool (fin_bl I q (by simp))
    | int j => obtain ⟨t', rfl⟩ := ry; exact PySem.EqNone.ne_none_int (fin_bl I q (by simp))
    | str j => obtain ⟨t', rfl⟩ := ry; exact PySem.EqNone.ne_none_str (fin_bl I q (by simp))
    | _ => exact absurd (show false = true from hs) Bool.false_ne_true
  | bl i =>
    cases rx
    cases y with
    | non => cases ry; exact PySem.EqNone.ne_bool_none (fin_bl I q (by simp))
    | bl j => cases ry; exact ne_bool (fin_bl I q (congrArg not dec_bl))
    | str j => obtain ⟨t', rfl⟩ := ry; exact PySem.EqMixed.ne_bool_str (fin_bl I q (by simp))
    | _ => exact absurd (show false = true from hs) Bool.false_ne_true
  | int i =>
    obtain ⟨t, rfl⟩ := rx
    cases y with
    | non => cases ry; exact PySem.EqNone.ne_int_none (fin_bl I q (by simp))
    | int j => obtain ⟨t', rfl⟩ := ry; exact ne_int (fin_bl I q (congrArg not dec_int))
    | str j => obtain ⟨t', rfl⟩ := ry; exact PySem.EqMixed.ne_int_str (fin_bl I q (by simp))
    | _ => exact absurd (show false = true from hs) Bool.false_ne_true
  | str i =>
    obtain ⟨t, rfl⟩ := rx
    cases y with
    | non => cases ry; exact PySem.EqNone.ne_str_none (fin_bl I q (by simp))
    | bl j => cases ry; exact PySem.EqMixed.ne_str_bool (fin_bl I q (by simp))
    | int j => obtain ⟨t', rfl⟩ := ry; exact PySem.EqMixed.ne_str_int (fin_bl I q (by simp))
    | str j => obtain ⟨t', rfl⟩ := ry; exact ne_str (fin_bl I q (congrArg not dec_str))
    | _ => exact absurd (show false = true from hs) Bool.false_ne_true
  | byt i =>
    obtain ⟨t, rfl⟩ := rx
    cases y with
    | byt j => obtain ⟨t', rfl⟩ := ry; exact PySem.W.ne_bytes (fin_bl I q (congrArg not dec_byt))
    | _ => exact absurd (show false = true from hs) Bool.false_ne_true
  | _ => cases y <;> exact absurd (show false = true from hs) Bool.false_ne_true
theorem op_lt : OpR X (compareOp .Lt) (rI0 fun i j => .bl (decide (i < j))) := opB0 fun _ _ _ _ _ _ _ q => lt_int q
theorem op_le : OpR X (compareOp .LtE) (rI0 fun i j => .bl (decide (i ≤ j))) := opB0 fun _ _ _ _ _ _ _ q => le_int q
theorem op_gt : OpR X (compareOp .Gt) (rI0 fun i j => .bl (decide (j < i))) := opB0 fun _ _ _ _ _ _ _ q => gt_int q
theorem op_ge : OpR X (compareOp .GtE) (rI0 fun i j => .bl (decide (j ≤ i))) := opB0 fun _ _ _ _ _ _ _ q => ge_int q
theorem op_in_str : OpR X (compareOp .In) (fun x y H Q => ∃ i j, x = .str i ∧ y = .str j ∧ Q (.bl (!(Builtin.Str.occurrences j i 0 j.length 1).isEmpty)) H) := by
  intro pins s σ H x y v u Q I rx ry h
  obtain ⟨i, j, rfl, rfl, q⟩ := h
  obtain ⟨t, rfl⟩ := rx
  obtain ⟨t', rfl⟩ := ry
  exact in_str (fin_bl I q rfl)
theorem op_isN : OpR X (compareOp .Is) (fun x y H Q => y = .non ∧ Q (.bl (decide (x = .non))) H) := by
  intro pins s σ H x y v u Q I rx ry h
  obtain ⟨rfl, q⟩ := h
  cases ry
  refine is_none_gen (fin_bl I q ?_)
  cases x <;> first
    | (cases rx; rfl)
    | (obtain ⟨t, rfl⟩ := rx; rfl)
theorem OpR.or {f : Value → Value → Sem Value} {r r' : R2} (h : OpR X f r) (h' : OpR X f r') : OpR X f (fun x y H Q => r x y H Q ∨ r' x y H Q) := by
  intro pins s σ H x y v u Q I rx ry q
  rcases q with q | q
  · exact h pins s σ H x y v u Q I rx ry q
  · exact h' pins s σ H x y v u Q I rx ry q
theorem nomark (b : Expr) {op : CmpOp} (h : op ≠ .In := by decide) (h2 : op ≠ .NotIn := by decide) : behindInMarks op b = false := by
  have e1 : (op == CmpOp.In) = false := by cases op <;> first | rfl | exact absurd rfl h
  have e2 : (op == CmpOp.NotIn) = false := by cases op <;> first | rfl | exact absurd rfl h2
  cases b <;> simp [behindInMarks, e1, e2]
theorem pe_cmpR {op : CmpOp} {r : R2} (ho : OpR X (compareOp op) r) (ha : PE X a ta) (hb : PE X b tb) (hm : behindInMarks op b = false) : PE X (.Compare a [op] [b] pos) (tOp r ta tb) := by
  intro pins s σ H Q I h
  exact wpAny_Compare1 (binT ha hb I h fun v u s2 x y H2 I2 rx ry q => ho pins s2 σ H2 x y v u Q I2 rx ry q) hm
noncomputable def tTest (t : TE) : TT := fun σ H Q => t σ H fun x H' => ∃ k, x = .bl k ∧ Q k H'
theorem pt_cmpR {op : CmpOp} {r : R2} (ho : OpR X (compareOp op) r) (ha : PE X a ta) (hb : PE X b tb) (hm : behindInMarks op b = false) : PT X (.Compare a [op] [b] pos) (tTest (tOp r ta tb)) := by
  intro pins s σ H Q I h
  refine wpAny_isTrue_Compare1 (thn (ha pins s σ H _ I h) fun v s1 ⟨x, H1, I1, r1, q1⟩ => thn (hb pins s1 σ H1 _ I1 q1) fun u s2 ⟨y, H2, I2, r2, q2⟩ =>
    thn (ho pins s2 σ H2 x y v u _ I2 r1 r2 q2) fun c s3 ⟨z, H3, I3, r3, k, e, q3⟩ => ?_) hm
  subst e
  cases r3
  exact wpAny_truthy_bool ⟨H3, I3, q3⟩
noncomputable def tChain (r r' : R2) (ta tb tc : TE) : TE := fun σ H Q => ta σ H fun x H1 => tb σ H1 fun y H2 => r x y H2 fun z H3 => ∃ k, z = .bl k ∧
  (if k = true then tc σ H3 fun w' H4 => r' y w' H4 Q else Q (.bl false) H3)
theorem pe_chain {op op' : CmpOp} {r r' : R2} (ho : OpR X (compareOp op) r) (ho' : OpR X (compareOp op') r') (ha : PE X a ta) (hb : PE X b tb) (hc : PE X c tc)
    (hm : lastMarks [op, op'] [b, c] = false := by with_unfolding_all rfl) : PE X (.Compare a [op, op'] [b, c] pos) (tChain r r' ta tb tc) := by
  intro pins s σ H Q I h
  refine Compare_chain (thn (ha pins s σ H _ I h) fun v s1 ⟨x, H1, I1, r1, q1⟩ => chain_link (thn (hb pins s1 σ H1 _ I1 q1) fun u s2 ⟨y, H2, I2, r2, q2⟩ =>
    thn (ho pins s2 σ H2 x y v u _ I2 r1 r2 q2) fun d s3 ⟨z, H3, I3, r3, k, e, q3⟩ => ?_)) hm
  subst e
  cases r3
  refine wpAny_truthy_bool ?_
  cases k with
  | false => exact ite_ff ⟨.bl false, H3, I3, rfl, q3⟩
  | true => exact ite_tt (chain_last (thn (hc pins s3 σ H3 _ I3 q3) fun w' s4 ⟨z', H4, I4, r4, q4⟩ => ho' pins s4 σ H4 y z' u w' Q I4 r2 r4 q4))
noncomputable def TruV (K : PySem.W.Frag) (x : V) (H : Hp) (k : Bool) : Prop :=
  match x with
  | .non => k = false
  | .bl b => k = b
  | .int i => k = (i != 0)
  | .str y => y.length ≤ sizeLine ∧ k = ((y.length : Int) != 0)
  | .byt y => y.size ≤ sizeLine ∧ k = ((y.size : Int) != 0)
  | .ref p => (∃ xs, SqL K H p xs ∧ k = !xs.isEmpty) ∨ (∃ xs, SqT K H p xs ∧ k = !xs.isEmpty) ∨ ∃ kvs, H p = some (.dK kvs) ∧ k = !kvs.isEmpty
  | _ => False
theorem isEmpty_kv {κ : Type} {kvs : List (κ × V)} {vs : List (κ × Value)} (r : KV kvs vs) : (!vs.isEmpty) = !kvs.isEmpty := by
  cases r <;> rfl
theorem isEmpty_of {xs : List V} {its : List Value} (r : Vals xs its) : (!its.toArray.isEmpty) = !xs.isEmpty := by
  cases r <;> simp
theorem line63 : (sizeLine : Nat) < 2 ^ 63 := by rw [sizeLine_eq]; decide
theorem tru_ok : TruR X (fun x H Q => ∃ k, TruV X.K x H k ∧ Q k H) := by
  intro pins s σ H x v Q I rx h
  obtain ⟨k, e, q⟩ := h
  have hl := line63
  have hs : sizeLine = 16777216 := sizeLine_eq
  cases x with
  | non =>
    cases rx
    have e' : k = false := e
    subst e'
    exact truthy_none ⟨H, I, q⟩
  | bl b =>
    cases rx
    have e' : k = b := e
    subst e'
    exact wpAny_truthy_bool ⟨H, I, q⟩
  | int i =>
    obtain ⟨t, rfl⟩ := rx
    have e' : k = (i != 0) := e
    subst e'
    exact PySem.P.truthy_int ⟨H, I, q⟩
  | str y =>
    obtain ⟨t, rfl⟩ := rx
    obtain ⟨hy, e'⟩ : y.length ≤ sizeLine ∧ k = ((y.length : Int) != 0) := e
    subst e'
    exact PySem.P.truthy_str (by omega) ⟨H, I.tok _, q⟩
  | byt y =>
    obtain ⟨t, rfl⟩ := rx
    obtain ⟨hy, e'⟩ : y.size ≤ sizeLine ∧ k = ((y.size : Int) != 0) := e
    subst e'
    exact PySem.W.truthy_bytes (by omega) ⟨H, I.tok _, q⟩
  | ref p =>
    cases rx
    have e' : (∃ xs, SqL X.K H p xs ∧ k = !xs.isEmpty) ∨ (∃ xs, SqT X.K H p xs ∧ k = !xs.isEmpty) ∨ ∃ kvs, H p = some (.dK kvs) ∧ k = !kvs.isEmpty := e
    rcases e' with ⟨xs, hx, e'⟩ | ⟨xs, hx, e'⟩ | ⟨kvs, hx, e'⟩
    · subst e'
      obtain ⟨its, r, pl, hz⟩ := I.list hx
      have hlen := r.length
      exact wpAny_truthy_list pl.isList (by simp only [List.size_toArray]; omega) ⟨H, I.tok _, by rw [isEmpty_of r]; exact q⟩
    · subst e'
      obtain ⟨its, r, pl, hz⟩ := I.tuple hx
      have hlen := r.length
      exact truthy_tuple pl (by simp only [List.size_toArray]; omega) ⟨H, I.tok _, by rw [isEmpty_of r]; exact q⟩
    · subst e'
      obtain ⟨hz, hS, vs, r, m⟩ : kvs.length ≤ sizeLine ∧ (p == sysModules) = false ∧ ∃ vs, KV kvs vs ∧ s.heap.DictOf (mixKind X.prog X.w) p vs := I.hok p _ hx
      have hlen : kvs.length = vs.length := Paired.length r
      exact wpAny_truthy_dict hS m (by omega) ⟨H, I.tok _, by rw [isEmpty_kv r]; exact q⟩
  | _ => exact (show False from e).elim
theorem pt_truth (ha : PE X a ta) (he : ∀ whole, isTrue a X.env whole = (do let v ← whole; standAt a.pos; holding [v] (truthy v))) :
    PT X a (fun σ H Q => ta σ H fun x H' => ∃ k, TruV X.K x H' k ∧ Q k H') := by
  intro pins s σ H Q I h
  exact isTrue_plain (thn (ha pins s σ H _ I h) fun v s1 ⟨x, H1, I1, r1, q1⟩ => tru_ok pins s1 σ H1 x v Q I1 r1 q1) (he _)
theorem op_add_str : OpR X (binaryOp .Add) (fun x y H Q => ∃ i j, x = .str i ∧ y = .str j ∧ i.length + j.length ≤ sizeLine ∧ Q (.str (i ++ j)) H) := by
  intro pins s σ H x y v u Q I rx ry h
  obtain ⟨i, j, rfl, rfl, hz, q⟩ := h
  obtain ⟨t, rfl⟩ := rx
  obtain ⟨t', rfl⟩ := ry
  exact add_str (fun t' tk => ⟨.str (i ++ j), H, I.tok _, ⟨_, rfl⟩, q⟩) hz
theorem vals1 {x : V} {us : List Value} (r : Vals [x] us) : ∃ u, us = [u] ∧ RelV x u := by
  cases r with
  | cons r1 r2 => cases r2; exact ⟨_, rfl, r1⟩
theorem vals2 {x y : V} {us : List Value} (r : Vals [x, y] us) : ∃ u w', us = [u, w'] ∧ RelV x u ∧ RelV y w' := by
  cases r with
  | cons r1 r2 =>
    cases r2 with
    | cons r3 r4 => cases r4; exact ⟨_, _, rfl, r1, r3⟩
theorem call_abs : CallR X (.builtin "abs") (fun xs H Q => ∃ i, xs = [.int i] ∧ Q (.int (if i < 0 then -i else i)) H) := by
  intro pins s σ H xs us Q I r h
  obtain ⟨i, rfl, q⟩ := h
  obtain ⟨u, rfl, t, rfl⟩ := vals1 r
  exact call_abs_int fun u tk => ⟨.int (if i < 0 then -i else i), H, I.tok _, ⟨_, rfl⟩, q⟩
theorem call_max2 (hc : X.calm = true) : CallR X (.builtin "max") (fun xs H Q => ∃ i j, xs = [.int i, .int j] ∧ Q (.int (if j > i then j else i)) H) := by
  intro pins s σ H xs us Q I r h
  obtain ⟨i, j, rfl, q⟩ := h
  obtain ⟨u, w', rfl, ⟨t, rfl⟩, ⟨t', rfl⟩⟩ := vals2 r
  refine max_two_ints (I.ok.hd hc) fun h' tk k => ⟨_, H, I.kept k, ?_, q⟩
  by_cases hj : j > i
  · rw [if_pos hj, if_pos hj]; exact ⟨_, rfl⟩
  · rw [if_neg hj, if_neg hj]; exact ⟨_, rfl⟩
theorem call_int1 : CallR X (.type "int") (fun xs H Q => (∃ i, xs = [.int i] ∧ Q (.int i) H) ∨ ∃ k, xs = [.bl k] ∧ Q (.int (if k then 1 else 0)) H) := by
  intro pins s σ H xs us Q I r h
  rcases h with ⟨i, rfl, q⟩ | ⟨k, rfl, q⟩
  · obtain ⟨u, rfl, t, rfl⟩ := vals1 r
    exact call_int_int ⟨.int i, H, I, ⟨_, rfl⟩, q⟩
  · obtain ⟨u, rfl, r1⟩ := vals1 r
    cases r1
    exact call_int_bool ⟨.int (if k then 1 else 0), H, I.tok _, ⟨_, rfl⟩, q⟩
noncomputable def LenV (K : PySem.W.Frag) (x : V) (H : Hp) (n : Nat) : Prop :=
  match x with
  | .str y => y.length ≤ sizeLine ∧ n = y.length
  | .byt y => y.size ≤ sizeLine ∧ n = y.size
  | .ref p => (∃ xs, SqL K H p xs ∧ n = xs.length) ∨ ∃ xs, SqT K H p xs ∧ n = xs.length
  | _ => False
theorem call_len : CallR X (.builtin "len") (fun xs H Q => ∃ x n, xs = [x] ∧ LenV X.K x H n ∧ Q (.int n) H) := by
  intro pins s σ H xs us Q I r h
  obtain ⟨x, n, rfl, e, q⟩ := h
  obtain ⟨u, rfl, rx⟩ := vals1 r
  have hl := line63
  have hs : sizeLine = 16777216 := sizeLine_eq
  cases x with
  | str y =>
    obtain ⟨t, rfl⟩ := rx
    obtain ⟨hy, e'⟩ : y.length ≤ sizeLine ∧ n = y.length := e
    subst e'
    exact len_str (by omega) ⟨.int _, H, I.tok _, ⟨_, rfl⟩, q⟩
  | byt y =>
    obtain ⟨t, rfl⟩ := rx
    obtain ⟨hy, e'⟩ : y.size ≤ sizeLine ∧ n = y.size := e
    subst e'
    exact PySem.W.len_bytes (by omega) ⟨.int _, H, I.tok _, ⟨_, rfl⟩, q⟩
  | ref p =>
    cases rx
    have e' : (∃ xs, SqL X.K H p xs ∧ n = xs.length) ∨ ∃ xs, SqT X.K H p xs ∧ n = xs.length := e
    rcases e' with ⟨xs, hx, e'⟩ | ⟨xs, hx, e'⟩
    · subst e'
      obtain ⟨its, r', pl, hz⟩ := I.list hx
      have hlen := r'.length
      exact Calls.call_len_list pl.isList (by simp only [List.size_toArray]; omega) ⟨.int xs.length, H, I.tok _, ⟨_, by simp only [List.size_toArray]; rw [hlen]⟩, q⟩
    · subst e'
      obtain ⟨its, r', pl, hz⟩ := I.tuple hx
      have hlen := r'.length
      exact len_tuple pl (by simp only [List.size_toArray]; omega) ⟨.int xs.length, H, I.tok _, ⟨_, by simp only [List.size_toArray]; rw [hlen]⟩, q⟩
  | _ => exact (show False from e).elim
end
end L2
namespace L2
open PySem PySem.Spec PyProof.Rows
structure ObjM (h : Heap) (x dx C : Addr) (mA : Str → Option Value) : Prop where
  obj : h.get? x = some (PySem.W.instObj C dx)
  ns : h.Ns1 dx mA
  ne : dx ≠ x
theorem lookIn_ns {h : Heap} {dx : Addr} {mA : Str → Option Value} (n : h.Ns1 dx mA) : ∃ od, h.get? dx = some od ∧ ∀ name, PySem.W.lookIn name od = some (mA name) := by
  obtain ⟨o, es, ep, ho, hd, hk, _, hm⟩ := n
  refine ⟨o, ho, fun name => ?_⟩
  have e := hm name
  unfold nsFind findBy at e
  rw [← Array.find?_toList] at e
  unfold PySem.W.lookIn
  rw [hd]
  dsimp only
  split
  · rename_i y q
    rw [q] at e
    exact congrArg some e
  · rename_i q
    rw [q] at e
    have a : es.toList.any (·.refKey) = false := by
      rw [List.any_eq_false]
      intro y hy
      obtain ⟨z, t, hkey⟩ := hk y (Array.mem_toList_iff.mp hy)
      simp [DictEntry.refKey, hkey]
    have a' : ¬ es.toList.any (·.refKey) = true := by rw [a]; exact Bool.false_ne_true
    rw [if_neg a']
    exact congrArg some e
theorem ObjM.look {h : Heap} {x dx C : Addr} {mA : Str → Option Value} (I : ObjM h x dx C mA) : ∃ od, PySem.W.InstAt h x (PySem.W.instObj C dx) C (some od) ∧ ∀ name, PySem.W.lookIn name od = some (mA name) :=
  let ⟨od, ho, hl⟩ := lookIn_ns I.ns
  ⟨od, ⟨I.obj, rfl, rfl, ho⟩, hl⟩
section
variable {prog : Program} {w : World} {A : Around} {E : Value → Shared → Prop} {s : Shared} {K : PySem.W.Frag} {x dx C f : Addr} {mA : Str → Option Value} {name : Str} {v : Value}
end
theorem RelO.some_of {v : V} {o : Option Value} (r : RelO (some v) o) : ∃ u, o = some u ∧ RelV v u := by
  cases o with
  | none => exact (show False from r).elim
  | some u => exact ⟨u, rfl, r⟩
theorem RelO.none_of {o : Option Value} (r : RelO none o) : o = none := by
  cases o with
  | none => rfl
  | some u => exact (show False from r).elim
section
variable {P : Program} {w : World} {H H' : Hp} {h h' : Heap} {a C dx : Addr} {fs fs' : List (Str × V)}
theorem ins_get (hok : HOk P w H h) (e : H a = some (.ins C dx fs)) : ∃ mA, ObjM h a dx C mA ∧ (∀ f, RelO (fs.lookup f) (mA f)) ∧ PySem.Within mA (fs.map (·.1)) ∧ fs.length ≤ 1000 ∧ H dx = some (.own a) := by
  obtain ⟨d, z, ne, ob, mA, n, r, q⟩ := (show ObjOk P w H h a (.ins C dx fs) from hok a _ e)
  exact ⟨mA, ⟨ob, n, ne⟩, r, q, z, d⟩
end
structure Cls (K : PySem.W.Frag) (C : Addr) : Prop where
  pg : PySem.W.plainGet K C Str.empty = true
  hd : PySem.W.hasDictIn K C = true
  po : PySem.W.plainOver K C = true
  sa : PySem.W.findIn K (.ref C) "__setattr__" = some (some (.builtin "object.__setattr__"))
theorem Cls.get {K : PySem.W.Frag} {C : Addr} (c : Cls K C) (f : Str) : PySem.W.plainGet K C f = true := c.pg
section
variable {X : Cx} {pins : List (Addr × Obj)} {σ : St} {H : Hp} {s : Shared} {a C dx : Addr} {fs : List (Str × V)} {f : Str} {v : V} {A : Around} {E : Value → Shared → Prop}
end
section
variable {X : Cx} {o e value : Expr} {f : Str} {pos pos' tpos : Pos} {ta tv : TE}
end
section
variable {X : Cx} {pins : List (Addr × Obj)} {σ : St} {H : Hp} {s : Shared} {A : Around} {E : Value → Shared → Prop} {Q : Value → Shared → Prop} {c : Value} {b : Bool}
inductive TyOf (K : PySem.W.Frag) (H : Hp) : V → Value → Prop where
  | non : TyOf K H .non (.type "NoneType")
  | bl (x : Bool) : TyOf K H (.bl x) (.type "bool")
  | int (i : Int) : TyOf K H (.int i) (.type "int")
  | str (x : Str) : TyOf K H (.str x) (.type "str")
  | flt (x : UInt64) : TyOf K H (.flt x) (.type "float")
  | lst {a : Addr} {xs : List V} (e : H a = some (.lst xs)) : TyOf K H (.ref a) (.type "list")
  | frz {a : Addr} {o : Obj} {xs : List V} (e : H a = some (.frz o (.lst xs))) : TyOf K H (.ref a) (.type "list")
  | tup {a : Addr} {xs : List V} (e : H a = some (.tup xs)) : TyOf K H (.ref a) (.type "tuple")
  | dK {a : Addr} {kvs : List (Key × V)} (e : H a = some (.dK kvs)) : TyOf K H (.ref a) (.type "dict")
  | dT {a : Addr} {kvs : List (List Key × V)} (e : H a = some (.dT kvs)) : TyOf K H (.ref a) (.type "dict")
  | ins {a C dx : Addr} {fs : List (Str × V)} (e : H a = some (.ins C dx fs)) (cl : Cls K C) (ha : PySem.W.findIn K (.ref C) "__class__" = some (some (.builtin "object.__class__")))
      (hn : PySem.W.specialIn K (.builtin "object.__class__") "__get__" = some (some (.builtin "getset_descriptor.__get__"))) (htk : PySem.W.takesIn K (.builtin "object.__class__") = some true)
      (hm : PySem.W.mroIn K C (.type "object") = some true) : TyOf K H (.ref a) (.ref C)
theorem isinst_ok {x : V} {u t : Value} (I : Inv X pins σ H s) (rx : RelV x u) (ty : TyOf X.K H x t) (e : PySem.W.kitOne X.K t c = some b) (h : ∀ tk, Q (.bool b) { s with toks := tk }) :
    wpAny (model X.prog X.w) A (call (.builtin "isinstance") [u, c]) Q E s := by
  cases ty with
  | non => cases (show u = Value.none from rx); exact PySem.W.kia_one PySem.W.kitx_none I.kIn True.intro e (fun z => nomatch z) h
  | bl y => cases (show u = Value.bool y from rx); exact PySem.W.kia_one PySem.W.kitx_bool I.kIn True.intro e (fun z => nomatch z) h
  | int i => obtain ⟨t, q⟩ := (show ∃ t, u = Value.int i t from rx); cases q; exact PySem.W.kia_one PySem.W.kitx_int I.kIn True.intro e (fun z => nomatch z) h
  | str y => obtain ⟨t, q⟩ := (show ∃ t, u = Value.str y t from rx); cases q; exact PySem.W.kia_one PySem.W.kitx_str I.kIn True.intro e (fun z => nomatch z) h
  | flt y => obtain ⟨t, q⟩ := (show ∃ t, u = Value.float y t from rx); cases q; exact PySem.W.kia_one PySem.W.kitx_float I.kIn True.intro e (fun z => nomatch z) h
  | @lst a xs ea =>
    cases (show u = Value.ref a from rx)
    obtain ⟨_, _, n, _, h1⟩ := (show ObjOk X.prog X.w H s.heap a (.lst xs) from I.hok a _ ea)
    exact PySem.W.kia_one PySem.W.kitx_list I.kIn ⟨_, h1, rfl⟩ e (fun z => nomatch z) h
  | @frz a ob xs ea =>
    cases (show u = Value.ref a from rx)
    obtain ⟨_, _, _, n, _, h1⟩ := (show ObjOk X.prog X.w H s.heap a (.frz ob (.lst xs)) from I.hok a _ ea)
    exact PySem.W.kia_one PySem.W.kitx_list I.kIn ⟨_, h1, rfl⟩ e (fun z => nomatch z) h
  | @tup a xs ea =>
    cases (show u = Value.ref a from rx)
    obtain ⟨_, _, _, p⟩ := (show ObjOk X.prog X.w H s.heap a (.tup xs) from I.hok a _ ea)
    obtain ⟨o, h1, h2, _⟩ := p
    exact PySem.W.kia_one PySem.W.kitx_tuple I.kIn ⟨o, h1, h2⟩ e (fun z => nomatch z) h
  | @dK a kvs ea =>
    cases (show u = Value.ref a from rx)
    obtain ⟨_, _, vs, _, p⟩ := (show ObjOk X.prog X.w H s.heap a (.dK kvs) from I.hok a _ ea)
    obtain ⟨o, es, ep, h1, h2, _⟩ := p
    exact PySem.W.kia_one PySem.W.kitx_dict I.kIn ⟨o, h1, h2.1⟩ e (fun z => nomatch z) h
  | @dT a kvs ea =>
    cases (show u = Value.ref a from rx)
    obtain ⟨_, _, xs, _, o, es, ep, h1, h2, _⟩ := (show ObjOk X.prog X.w H s.heap a (.dT kvs) from I.hok a _ ea)
    exact PySem.W.kia_one PySem.W.kitx_dict I.kIn ⟨o, h1, h2.1⟩ e (fun z => nomatch z) h
  | @ins a C dx fs ea cl ha hn htk hm =>
    cases (show u = Value.ref a from rx)
    obtain ⟨mA, O, _⟩ := ins_get I.hok ea
    obtain ⟨od, J, _⟩ := O.look
    exact PySem.W.kia_one (PySem.W.kitx_own (cl.get _) cl.hd ha hn htk hm) I.kIn J e (fun z => nomatch z) h
end
end L2
namespace L2
open PySem PySem.Spec PyProof.Rows
structure Room (k : Nat) (A : Around) : Prop where
  hd : A.handled = none
  dp : A.depth + 3 * k + 5 < recursionLimit
  un : A.units + 16 * k + 200 < cLine
theorem Room.mono {j k : Nat} {A : Around} (r : Room k A) (h : j ≤ k) : Room j A := ⟨r.hd, by have := r.dp; omega, by have := r.un; omega⟩
theorem Room.deeper {k : Nat} {A : Around} (r : Room (k + 1) A) (env : Env) : Room k (A.deeper env) :=
  ⟨r.hd, by have := r.dp; show A.depth + 1 + 3 * k + 5 < _; omega, by have := r.un; show A.units + 3 + 16 * k + 200 < _; omega⟩
theorem Room.in1 {k : Nat} {A : Around} (r : Room (k + 1) A) : Room k A.in1 :=
  ⟨r.hd, by have := r.dp; show A.depth + 3 * k + 5 < _; omega, by have := r.un; show A.units + 1 + 16 * k + 200 < _; omega⟩
theorem Room.depth {k : Nat} {A : Around} (r : Room k A) : A.depth < recursionLimit := by have := r.dp; omega
theorem Room.units {k : Nat} {A : Around} (r : Room k A) : A.units + 64 < cLine := by have := r.un; omega
noncomputable def tNil : TA := fun _ H Q => Q [] H
noncomputable def tCons (ta : TE) (tr : TA) : TA := fun σ H Q => ta σ H fun x H1 => tr σ H1 fun xs H2 => Q (x :: xs) H2
section
variable {X : Cx} {e : Expr} {es : List Expr} {te : TE} {t : TA} {pos : Pos}
theorem pa_nil : PA X [] tNil := fun _ _ _ _ H Q I h => Calls.spliced_nil ⟨[], H, I, .nil, h⟩
theorem pa_cons (ha : PE X e te) (hr : PA X es t) (hs : starEach (e :: es) X.env = (false, eval e X.env) :: starEach es X.env := by rfl) : PA X (e :: es) (tCons te t) := by
  intro pos pins s σ H Q I h
  rw [hs]
  show wpAny _ _ (spliced ((false, eval e X.env) :: backTo pos (starEach es X.env))) _ _ s
  refine Calls.spliced_cons (thn (ha pins s σ H _ I h) fun u s1 ⟨x, H1, I1, r1, q1⟩ => ?_)
  exact thn (hr pos pins s1 σ H1 _ I1 q1) fun us s2 ⟨xs, H2, I2, r2, q2⟩ => ⟨x :: xs, H2, I2, .cons r1 r2, q2⟩
noncomputable def tTup (t : TA) : TE := fun σ H Q => t σ H fun xs H1 => xs.length ≤ sizeLine ∧ ∀ p, H1 p = none → Q (.ref p) (upd H1 p (.tup xs))
noncomputable def tLst (t : TA) : TE := fun σ H Q => t σ H fun xs H1 => xs.length ≤ sizeLine ∧ ∀ p, H1 p = none → Q (.ref p) (upd H1 p (.lst xs))
theorem pe_tup {x1} (h : PA X es t) : PE X (.Tuple es x1 pos) (tTup t) := by
  intro pins s σ H Q I hq
  refine wpAny_Tuple_spliced (thn (h pos pins s σ H _ I hq) fun us s1 ⟨xs, H1, I1, r, z, q⟩ => ⟨by rw [← r.length]; exact z, ?_⟩)
  have hf : H1 s1.heap.objs.size = none := I1.hok.fresh (Nat.le_refl _)
  refine ⟨.ref s1.heap.objs.size, upd H1 s1.heap.objs.size (.tup xs), I1.laid (t' := s1.toks) (fun b u e => Heap.get?_push_of_some _ e) (Nat.le_refl _) ?_, rfl, q _ hf⟩
  exact ⟨z, us, r, ⟨_, Heap.get?_push_size _ rfl, rfl, _, rfl⟩⟩
theorem pe_lst (h : PA X es t) : PE X (.List es pos) (tLst t) := by
  intro pins s σ H Q I hq
  refine wpAny_List_spliced (thn (h pos pins s σ H _ I hq) fun us s1 ⟨xs, H1, I1, r, z, q⟩ => ⟨by rw [← r.length]; exact z, ?_⟩)
  have hf : H1 s1.heap.objs.size = none := I1.hok.fresh (Nat.le_refl _)
  refine ⟨.ref s1.heap.objs.size, upd H1 s1.heap.objs.size (.lst xs), I1.laid (t' := s1.toks) (fun b u e => Heap.get?_push_of_some _ e) (Nat.le_refl _) ?_, rfl, q _ hf⟩
  exact ⟨z, us, 0, r, Heap.get?_push_size _ rfl⟩
end
noncomputable abbrev Sp := List V → Hp → VK → XK → Prop
noncomputable abbrev CXT := List Env → Hp → Shared → XK → Value → Shared → Prop
structure Env0 (P : Program) (w : World) (K : PySem.W.Frag) (mg : Str → Option Value) (base : Heap) (A : Around) (outer : List Env) (s : Shared) (H : Hp) : Prop where
  frames : A.frames = some outer
  mod : Mod K mg base
  bs : ∀ b o, base.get? b = some o → s.heap.get? b = some o ∧ H b = none
  bsz : base.objs.size ≤ s.heap.objs.size
  funs : s.heap.FunFrames base outer
  frf : ∀ b ∈ frs outer, H b = none
  hok : HOk P w H s.heap
  bare : AllBare s.gens
noncomputable def CE (outer : List Env) (P : Program) (w : World) (H : Hp) (s : Shared) (Q : VK) (u : Value) (s' : Shared) : Prop :=
  ∃ v H', s'.os = s.os ∧ AllBare s'.gens ∧ Un (frs outer) [] H H' s.heap s'.heap ∧ HOk P w H' s'.heap ∧ RelV v u ∧ Q v H'
noncomputable def CR (CX : CXT) (outer : List Env) (P : Program) (w : World) (H : Hp) (s : Shared) (Q : VK) (E : XK) (r : Result) (s' : Shared) : Prop :=
  match r with
  | .ok (.ret u) => CE outer P w H s Q u s'
  | .ok _ => False
  | .error e => CX outer H s E e s'
structure FnOk (P : Program) (w : World) (K : PySem.W.Frag) (mg : Str → Option Value) (base : Heap) (CX : CXT) (k : Nat) (f : Addr) (fd : FuncData) (ps : List Str) (sp : Sp) : Prop where
  len : ∀ vs H Q E, sp vs H Q E → vs.length = ps.length
  run : ∀ (A : Around) (outer : List Env) (s : Shared) (H : Hp) (args : Args) (us : List Value) (vs : List V) (Q : VK) (E : XK), Room k A → Env0 P w K mg base A outer s H → BindsTo s fd args (ps.zip us) → Vals vs us → sp vs H Q E →
    codeAny (model P w) A (.call (.ref f) args) (CR CX outer P w H s Q E) s
theorem FnOk.mono {P : Program} {w : World} {K : PySem.W.Frag} {mg : Str → Option Value} {base : Heap} {CX : CXT} {j k : Nat} {f : Addr} {fd : FuncData} {ps : List Str} {sp : Sp} (F : FnOk P w K mg base CX j f fd ps sp) (h : j ≤ k) :
    FnOk P w K mg base CX k f fd ps sp := ⟨F.len, fun A outer s H args us vs Q E hr => F.run A outer s H args us vs Q E (hr.mono h)⟩
theorem FnOk.imp {P : Program} {w : World} {K : PySem.W.Frag} {mg : Str → Option Value} {base : Heap} {CX : CXT} {k : Nat} {f : Addr} {fd : FuncData} {ps : List Str} {sp sp' : Sp} (F : FnOk P w K mg base CX k f fd ps sp)
    (h : ∀ vs H Q E, sp' vs H Q E → sp vs H Q E) : FnOk P w K mg base CX k f fd ps sp' :=
  ⟨fun vs H Q E q => F.len vs H Q E (h _ _ _ _ q), fun A outer s H args us vs Q E hr he hb hv hs => F.run A outer s H args us vs Q E hr he hb hv (h _ _ _ _ hs)⟩
theorem Env0.in1 {P : Program} {w : World} {K : PySem.W.Frag} {mg : Str → Option Value} {base : Heap} {A : Around} {outer : List Env} {s : Shared} {H : Hp} (e : Env0 P w K mg base A outer s H) :
    Env0 P w K mg base A.in1 outer s H := ⟨e.frames, e.mod, e.bs, e.bsz, e.funs, e.frf, e.hok, e.bare⟩
section
variable {X : Cx} {pins : List (Addr × Obj)} {σ : St} {H : Hp} {s s' : Shared}
theorem Inv.env0 (I : Inv X pins σ H s) : Env0 X.prog X.w X.K X.mg X.base X.A X.stack s H :=
  ⟨I.ok.frames, I.ok.mod, I.bs, Nat.le_trans I.ok.bsz I.sz, I.stack, I.stkFree, I.hok, I.bare⟩
theorem Inv.after {Q : VK} {u : Value} (I : Inv X pins σ H s) (h : CE X.stack X.prog X.w H s Q u s') : EP X pins σ Q u s' := by
  obtain ⟨v, H', os, bare, un, hok, r, q⟩ := h
  obtain ⟨hh, g, d, t, os'⟩ := s'
  obtain rfl : os' = s.os := os
  exact ⟨v, H', I.call (h' := hh) (g' := g) (d' := d) (t' := t) (ch := []) un hok bare (fun b z => absurd z (by simp)), r, q⟩
end
noncomputable def tCall (sp : Sp) (dvs : List V) (E : XK) (t : TA) : TE := fun σ H Q => t σ H fun vs H1 => sp (vs ++ dvs) H1 Q E
noncomputable def Binds (K : PySem.W.Frag) (fd : FuncData) (ps : List Str) (ds : List Value) : Prop :=
  ∀ (s : Shared) (us : List Value), K.In s.heap → (us ++ ds).length = ps.length → BindsTo s fd ⟨us, []⟩ (ps.zip (us ++ ds))
theorem Binds.all {K : PySem.W.Frag} {fd : FuncData} {ps : List Str} (h : ∀ us : List Value, us.length = ps.length → bindArgs fd ⟨us, []⟩ = pure (ps.zip us)) : Binds K fd ps [] := fun s us _ hl => by
  rw [List.append_nil] at hl ⊢
  exact .of_eq (h us hl)
noncomputable def Passes (CX : CXT) (X : Cx) (E : XK) : Prop := ∀ (pins : List (Addr × Obj)) (σ : St) (H : Hp) (s : Shared) (e : Value) (s' : Shared), Inv X pins σ H s → CX X.stack H s E e s' → X.xe e s'
section
variable {X : Cx} {CX : CXT} {k : Nat} {f C : Addr} {fd : FuncData} {ps : List Str} {sp : Sp} {dvs : List V} {ds : List Value} {E : XK} {x m : Str} {p pos apos : Pos} {e o : Expr} {es : List Expr} {ta : TE} {t : TA}
theorem run_fn {pins : List (Addr × Obj)} {σ : St} {H : Hp} {s : Shared} {Q : VK} {us : List Value} {vs : List V} (F : FnOk X.prog X.w X.K X.mg X.base CX k f fd ps sp) (hr : Room k X.A) (hb : Binds X.K fd ps ds) (hd : Vals dvs ds) (hx : Passes CX X E)
    (I : Inv X pins σ H s) (r : Vals vs us) (h : sp (vs ++ dvs) H Q E) : wpAny (model X.prog X.w) X.A (call (.ref f) us) (EP X pins σ Q) X.xe s := by
  have r2 : Vals (vs ++ dvs) (us ++ ds) := r.append hd
  have hl : (us ++ ds).length = ps.length := by rw [← r2.length]; exact F.len _ _ _ _ h
  refine wpAny_call (codeAny_mono (F.run X.A X.stack s H ⟨us, []⟩ (us ++ ds) (vs ++ dvs) Q E hr I.env0 (hb s us I.kIn hl) r2 h) fun r s' hq => ?_)
  cases r with
  | error e => exact hx pins σ H s e s' I hq
  | ok fl =>
    cases fl with
    | ret u => exact I.after hq
    | next => exact False.elim hq
    | brk => exact False.elim hq
    | cont => exact False.elim hq
theorem pe_call (F : FnOk X.prog X.w X.K X.mg X.base CX k f fd ps sp) (hr : Room k X.A) (hg : Gl X x) (hm : X.mg x = some (.ref f)) (hk : PySem.W.keepIn X.K (.ref f) = true) (hb : Binds X.K fd ps ds) (hd : Vals dvs ds) (hx : Passes CX X E)
    (ha : PA X (e :: es) t) (hdb : (x == ("__debug__" : Str)) = false := by decide) (he : starEach (e :: es) X.env = (false, eval e X.env) :: starEach es X.env := by rfl) (hpl : (backTo pos (starEach es X.env)).any (·.1) = false := by rfl) :
    PE X (.Call (.Name x p) (e :: es) [] pos) (tCall sp dvs E t) := by
  intro pins s σ H Q I h
  refine wpAny_Call_Name_kw (ld_glob I hg hm ?_ hdb)
  refine PySem.W.callWith_K (h₀ := X.base) I.ok.mod.kin hk (thn (ha pos pins s σ H _ I h) fun us s1 ⟨vs, H1, I1, r, q⟩ => ⟨I1.kIn, ?_⟩) he hpl
  exact run_fn F hr hb hd hx I1 r q
end
section
variable {X : Cx} {CX : CXT} {k : Nat} {f C : Addr} {fd : FuncData} {ps ks : List Str} {sp : Sp} {E : XK} {x m : Str} {p pos apos kpos : Pos} {e o : Expr} {es : List Expr} {kws : List Keyword} {te ta : TE} {t tk : TA} {nm : Option Str}
variable {g : List Value → List Value → List Value} {gV : List V → List V → List V}
end
structure FnScope (N P : List Str) (sc : Scope) : Prop where
  kind : sc.kind = .function
  co : sc.isCoroutine = false
  gen : sc.isGenerator = false
  nd : N.Nodup
  pre : N.take P.length = P
  par : ∀ x ∈ P, sc.names.lookup x = some .local ∨ sc.names.lookup x = some .cell
  nofree : ∀ y ∈ sc.names, y.2 ≠ .free
theorem bindL_out {kindOf : Str → Option NameKind} {x : Str} : ∀ {binds : List (Str × Value)} {m : Str → Option Value}, (∀ v, (x, v) ∉ binds) → bindL kindOf binds m x = m x
  | [], _, _ => rfl
  | (n, v) :: r, m, h => by
    unfold bindL
    rw [bindL_out fun w hw => h w (List.mem_cons_of_mem _ hw)]
    split
    · have : x ≠ n := by rintro rfl; exact h v List.mem_cons_self
      simp [this]
    · rfl
theorem bindC_out {kindOf : Str → Option NameKind} {x : Str} : ∀ {binds : List (Str × Value)} {m : Str → Option Value}, (∀ v, (x, v) ∉ binds) → bindC kindOf binds m x = m x
  | [], _, _ => rfl
  | (n, v) :: r, m, h => by
    unfold bindC
    rw [bindC_out fun w hw => h w (List.mem_cons_of_mem _ hw)]
    split
    · rfl
    · have : x ≠ n := by rintro rfl; exact h v List.mem_cons_self
      simp [this]
theorem bindL_get {kindOf : Str → Option NameKind} {x : Str} {v : Value} : ∀ {P : List Str} {vs : List Value} {i : Nat} {m : Str → Option Value}, P.Nodup → P[i]? = some x → vs[i]? = some v → kindOf x = some .local →
    bindL kindOf (P.zip vs) m x = some v
  | [], _, _, _, _, h, _, _ => by simp at h
  | _ :: _, [], _, _, _, _, h, _ => by simp at h
  | p :: P, w :: vs, 0, m, nd, h1, h2, hk => by
    simp at h1 h2; subst h1; subst h2
    show bindL kindOf ((p, w) :: P.zip vs) m p = _
    unfold bindL
    rw [bindL_out fun v hv => (List.nodup_cons.mp nd).1 (List.of_mem_zip hv).1, if_pos hk]
    simp
  | p :: P, w :: vs, i + 1, m, nd, h1, h2, hk => by
    show bindL kindOf ((p, w) :: P.zip vs) m x = _
    unfold bindL
    exact bindL_get (i := i) (List.nodup_cons.mp nd).2 (by simpa using h1) (by simpa using h2) hk
theorem bindC_get {kindOf : Str → Option NameKind} {x : Str} {v : Value} : ∀ {P : List Str} {vs : List Value} {i : Nat} {m : Str → Option Value}, P.Nodup → P[i]? = some x → vs[i]? = some v → kindOf x ≠ some .local →
    bindC kindOf (P.zip vs) m x = some v
  | [], _, _, _, _, h, _, _ => by simp at h
  | _ :: _, [], _, _, _, _, h, _ => by simp at h
  | p :: P, w :: vs, 0, m, nd, h1, h2, hk => by
    simp at h1 h2; subst h1; subst h2
    show bindC kindOf ((p, w) :: P.zip vs) m p = _
    unfold bindC
    rw [bindC_out fun v hv => (List.nodup_cons.mp nd).1 (List.of_mem_zip hv).1, if_neg hk]
    simp
  | p :: P, w :: vs, i + 1, m, nd, h1, h2, hk => by
    show bindC kindOf ((p, w) :: P.zip vs) m x = _
    unfold bindC
    exact bindC_get (i := i) (List.nodup_cons.mp nd).2 (by simpa using h1) (by simpa using h2) hk
noncomputable def start (N : List Str) (vs : List V) : St := vs.map some ++ List.replicate (N.length - vs.length) none
noncomputable def cxOf (CX : CXT) (P : Program) (w : World) (K : PySem.W.Frag) (mg : Str → Option Value) (base : Heap) (N : List Str) (qual : Str) (scope : Scope) (f : Addr) (cd : Value) (A : Around) (outer : List Env) (s : Shared) (H : Hp) (E : XK) : Cx where
  prog := P
  w := w
  K := K
  mg := mg
  base := base
  A := A.deeper (envOfC qual scope s.heap.objs.size f cd)
  N := N
  s₀ := s
  H₀ := H
  env := envOfC qual scope s.heap.objs.size f cd
  outer := outer
  stack := envOfC qual scope s.heap.objs.size f cd :: outer
  ex := []
  calm := true
  fn := fun _ => true
  pn := []
  xe := fun e s' => wpAny (model P w) (A.deeper (envOfC qual scope s.heap.objs.size f cd)) (leaving (envOfC qual scope s.heap.objs.size f cd) e) (fun _ s'' => CX outer H s E e s'') (fun e' s'' => CX outer H s E e' s'') s'
theorem cell_has {sc : Scope} {n : Nat} {x : Str} (h : sc.names.lookup x = some .cell) : ∃ c, (cellsFrom n sc.names []).lookup x = some c := by
  have q := PySem.W.cellsFrom_some sc.names n [] (.inl h)
  exact Option.isSome_iff_exists.mp q
theorem inv_start {CX : CXT} {P : Program} {w : World} {K : PySem.W.Frag} {mg : Str → Option Value} {base : Heap} {N ps : List Str} {qual : Str} {scope : Scope} {f : Addr} {cd : Value} {A : Around} {outer : List Env} {s s1 : Shared} {H : Hp} {E : XK} {us : List Value} {vs : List V}
    (S : FnScope N ps scope) (hd : A.handled = none) (e0 : Env0 P w K mg base A outer s H) (hl : vs.length = ps.length) (r : Vals vs us)
    (x : InCallC s s.heap.objs.size (bindL (envOfC qual scope s.heap.objs.size f cd).kindOf (ps.zip us) fun _ => none) (cellsFrom (s.heap.objs.size + 1) scope.names []) (bindC (envOfC qual scope s.heap.objs.size f cd).kindOf (ps.zip us) fun _ => none) s1) :
    Inv (cxOf CX P w K mg base N qual scope f cd A outer s H E) [] (start N vs) H s1 := by
  have hpl : ps.length ≤ N.length := by have := congrArg List.length S.pre; rw [List.length_take] at this; omega
  obtain ⟨h1, tk, rfl, hk⟩ := x.done
  have noA : ∀ b : Addr, b ∉ (cxOf CX P w K mg base N qual scope f cd A outer s H E).ex := fun b z => absurd (show b ∈ ([] : List Addr) from z) (by simp)
  refine ⟨⟨e0.mod, S.kind, rfl, rfl, Nat.le_refl _, fun y z c h1 h2 => ?_, fun y hy => ?_, fun y c _ h => ?_, fun _ => hd, Around.frames_deeper e0.frames, .inr ⟨rfl, rfl⟩, fun b z => absurd z (noA b), e0.bs, e0.bsz, fun b _ _ => noA b, fun b z => absurd z (noA b), e0.funs, e0.frf⟩,
    rfl, e0.bare, Un.kept hk, ⟨_, x.toInCall.ns, fun i y v h1 h2 h3 => ?_⟩, fun y c h => ⟨_, x.cell y c h⟩, e0.hok.fresh (Nat.le_refl _), fun y c h => ?_, fun p hp => absurd (show p ∈ ([] : List (Addr × Obj)) from hp) (by simp), e0.hok.kept hk, ?_⟩
  · exact name_of_addr x.apart (PySem.mem_of_lookup h1) (PySem.mem_of_lookup h2)
  · have hy : scope.names.lookup y = some .cell ∨ scope.names.lookup y = some .free := hy
    rcases hy with hy | hy
    · exact cell_has hy
    · exact absurd rfl (S.nofree _ (PySem.mem_of_lookup hy))
  · exact Nat.le_of_lt (x.above y c (PySem.mem_of_lookup h))
  · have hi : i < vs.length := by
      unfold start at h2
      by_cases hi : i < vs.length
      · exact hi
      · rw [List.getElem?_append_right (by simpa using hi)] at h2
        rw [List.getElem?_replicate] at h2
        split at h2 <;> cases h2
    have ha : vs[i]? = some v := by
      unfold start at h2
      rw [List.getElem?_append_left (by simpa using hi), List.getElem?_map] at h2
      cases e : vs[i]? with
      | none => rw [e] at h2; cases h2
      | some a => rw [e] at h2; cases h2; rfl
    obtain ⟨u, hu, rv⟩ := r.get ha
    have hp : ps[i]? = some y := by
      rw [← S.pre, List.getElem?_take_of_lt (by omega)]; exact h1
    have ndP : ps.Nodup := by rw [← S.pre]; exact S.nd.sublist (List.take_sublist _ _)
    refine ⟨u, rv, ?_⟩
    rcases S.par y (List.mem_of_getElem? hp) with k | k
    · exact .inl ⟨k, bindL_get ndP hp hu k⟩
    · obtain ⟨c, e⟩ := cell_has (n := s.heap.objs.size + 1) k
      refine .inr ⟨.inl k, c, e, ?_⟩
      have q := x.cell y c e
      rw [bindC_get ndP hp hu (by show scope.names.lookup y ≠ _; rw [k]; decide)] at q
      exact q
  · exact e0.hok.fresh (Nat.le_of_lt (x.above y c (PySem.mem_of_lookup h)))
  · unfold start
    show _ = N.length
    rw [List.length_append, List.length_map, List.length_replicate]
    omega
theorem fn_of {CX : CXT} {P : Program} {w : World} {K : PySem.W.Frag} {mg : Str → Option Value} {base : Heap} {k : Nat} {f : Addr} {name qual : Str} {params : Arguments} {body : List Stmt} {scope : Scope} {dV kV doc pm cdv ct oc : Value} {an od : Option Addr}
    {osl : Array (Option Value)} {N ps : List Str} {sp : Sp} (lk : K.lookup f = some ⟨oc, od, .func (PySem.W.fnOf name qual params body scope dV kV doc pm an cdv ct), osl⟩) (hcd : PySem.W.codeIn K cdv qual = true) (S : FnScope N ps scope)
    (len : ∀ vs H Q E, sp vs H Q E → vs.length = ps.length)
    (hbody : ∀ (A : Around) (outer : List Env) (s : Shared) (H : Hp) (vs : List V) (Q : VK) (E : XK), Room k (A.deeper (envOfC qual scope s.heap.objs.size f cdv)) → sp vs H Q E →
      ∃ t, PSs (cxOf CX P w K mg base N qual scope f cdv A outer s H E) body t ∧ t { nx := fun _ H' => Q .non H', rt := Q } (start N vs) H) :
    FnOk P w K mg base CX (k + 1) f (PySem.W.fnOf name qual params body scope dV kV doc pm an cdv ct) ps sp := by
  refine ⟨len, fun A outer s H args us vs Q E hr e0 hb r hsp => ?_⟩
  have hl := len _ _ _ _ hsp
  have KX : K.In s.heap := e0.mod.kin.keeps fun b o e => (e0.bs b o e).1
  have lim : s.heap.NoLimit := e0.mod.nolimit.keeps fun b o e => (e0.bs b o e).1
  have hkind : ∀ y ∈ ps.zip us, scope.names.lookup y.1 = some .local ∨ (scope.names.lookup y.1 = some .cell ∧ ((cellsFrom (s.heap.objs.size + 1) scope.names []).lookup y.1).isSome = true) := fun ⟨n, v⟩ hy => by
    rcases S.par n (List.of_mem_zip hy).1 with q | q
    · exact .inl q
    · exact .inr ⟨q, PySem.W.cellsFrom_some _ _ _ (.inl q)⟩
  refine codeAny_call_function hr.depth (KX _ _ lk) rfl S.co S.gen rfl (PySem.W.codeRec_of KX hcd) (hb _ _ _ _ ?_)
  refine wpAny_newFunctionEnv_cells S.kind hkind fun env he s1 x => ?_
  subst he
  refine ⟨lim.keeps x.toInCall.keep, codeAny_func ?_⟩
  obtain ⟨t, ht, hq⟩ := hbody A outer s H vs Q E (hr.deeper _) hsp
  have I : Inv (cxOf CX P w K mg base N qual scope f cdv A outer s H E) [] (start N vs) H s1 := inv_start S hr.hd e0 hl r x
  refine wpAny_mono (ht [] s1 (start N vs) H _ I hq) (fun fl s' hs => ?_) fun e s' hs => hs
  have fin : ∀ {σ' : St} {H' : Hp} {v : V} {u : Value}, Inv (cxOf CX P w K mg base N qual scope f cdv A outer s H E) [] σ' H' s' → RelV v u → Q v H' → CE outer P w H s Q u s' :=
    fun {σ' H' v u} J rv q => ⟨v, H', J.os, J.bare, J.base, J.hok, rv, q⟩
  cases fl with
  | ret u =>
    obtain ⟨v, σ', H', J, rv, q⟩ := hs
    exact fin J rv q
  | next =>
    obtain ⟨σ', H', J, q⟩ := hs
    exact fin (v := V.non) (u := Value.none) J rfl q
  | brk =>
    obtain ⟨_, _, _, q⟩ := hs
    exact False.elim q
  | cont =>
    obtain ⟨_, _, _, q⟩ := hs
    exact False.elim q
end L2
namespace L2
open PySem PySem.Spec PyProof.Rows
section
variable {X : Cx} {x : Str} {p pos : Pos} {e : Expr} {es : List Expr} {t : TA} {id T : String} {r : List V → Hp → VK → Prop}
noncomputable def tCB (r : List V → Hp → VK → Prop) (t : TA) : TE := fun σ H Q => t σ H fun vs H1 => r vs H1 Q
theorem pe_callB (hc : CallR X (.builtin id) r) (hg : Gl X x) (hm : X.mg x = none) (hv : bootBuiltins x = some (.builtin id)) (ha : PA X (e :: es) t) (hn : x ≠ "__name__" := by decide) (hdb : (x == ("__debug__" : Str)) = false := by decide)
    (he : starEach (e :: es) X.env = (false, eval e X.env) :: starEach es X.env := by rfl) (hpl : (backTo pos (starEach es X.env)).any (·.1) = false := by rfl) : PE X (.Call (.Name x p) (e :: es) [] pos) (tCB r t) := by
  intro pins s σ H Q I h
  refine wpAny_Call_Name_kw (ld_blt I hg hm hv ?_ hn hdb)
  exact PyProof.Rows.callWith_builtin1 (thn (ha pos pins s σ H _ I h) fun us s1 ⟨vs, H1, I1, r1, q1⟩ => hc pins s1 σ H1 vs us Q I1 r1 q1) he hpl
theorem pe_callTy (hc : CallR X (.type T) r) (hg : Gl X x) (hm : X.mg x = none) (hv : bootBuiltins x = some (.type T)) (ha : PA X (e :: es) t) (hn : x ≠ "__name__" := by decide) (hdb : (x == ("__debug__" : Str)) = false := by decide)
    (he : starEach (e :: es) X.env = (false, eval e X.env) :: starEach es X.env := by rfl) (hpl : (backTo pos (starEach es X.env)).any (·.1) = false := by rfl) : PE X (.Call (.Name x p) (e :: es) [] pos) (tCB r t) := by
  intro pins s σ H Q I h
  refine wpAny_Call_Name_kw (ld_blt I hg hm hv ?_ hn hdb)
  exact PyProof.Rows.callWith_type1 (thn (ha pos pins s σ H _ I h) fun us s1 ⟨vs, H1, I1, r1, q1⟩ => hc pins s1 σ H1 vs us Q I1 r1 q1) he hpl
end
end L2
namespace HT
open PySem PyProof.Rows
section
open PySem.SeqAt
open PySem.AutoSeq1 (wpAny_loadPart')
open PySem.MeetsSeq PySem.MeetsSeq2 PySem.MeetsSeq3
end
section
variable {prog : Program} {w : World} {A : Around} {E : Value → Shared → Prop} {s : Shared}
theorem cat_tup {t b : Addr} {vs ws : List Value} {Q : Value → Shared → Prop} (ht : IsTup s.heap t vs.toArray) (hb : IsTup s.heap b ws.toArray) (hv : vs ≠ [])
    (h1 : ws = [] → Q (.ref t) s) (h2 : ws ≠ [] → Q (.ref s.heap.objs.size) { s with heap := s.heap.push { cls := .type "tuple", data := .seq (vs ++ ws).toArray } })
    (hsz : vs.length + ws.length ≤ sizeLine) : wpAny (model prog w) A (binaryOp .Add (.ref t) (.ref b)) Q E s := by
  obtain ⟨⟨cls, dd, data, sl⟩, ho, hc, n, hd⟩ := id ht
  obtain ⟨⟨cls2, dd2, data2, sl2⟩, ho2, hc2, n2, hd2⟩ := id hb
  simp only at hc hd hc2 hd2
  subst hc hd hc2 hd2
  have e : vs.toArray ++ ws.toArray = (vs ++ ws).toArray := by simp
  by_cases hw : ws = []
  · exact concat_meets ⟨_, ho, rfl⟩ ⟨_, ho2, rfl⟩ noFill_tuple_add seq_tuple_add PySem.F.slot_tuple_add PySem.F.entry_tuple_add (PySem.F.args_tuple_add_2 _ _)
      (tuple_addW1 t b vs.toArray ws.toArray n n2 dd dd2 sl sl2 (by simpa using hv) (by simp [hw])) ⟨ho, ho2, h1 hw⟩
  · refine concat_meets ⟨_, ho, rfl⟩ ⟨_, ho2, rfl⟩ noFill_tuple_add seq_tuple_add PySem.F.slot_tuple_add PySem.F.entry_tuple_add (PySem.F.args_tuple_add_2 _ _)
      (tuple_addW2 t b vs.toArray ws.toArray n n2 dd dd2 sl sl2 (by simpa using hv) (by simpa using hw) (by rw [List.size_toArray, List.size_toArray]; exact hsz)) ⟨ho, ho2, ?_⟩
    rw [e]
    exact h2 hw
noncomputable def sIx (n d : Nat) : Option Int → Nat
  | none => d
  | some v => if v < 0 then (v + (n : Int)).toNat else min v.toNat n
theorem sIx_none (n d : Nat) : sIx n d none = d := rfl
theorem sIx_nat (n d k : Nat) : sIx n d (some (k : Int)) = min k n := by
  show (if (k : Int) < 0 then ((k : Int) + (n : Int)).toNat else min (k : Int).toNat n) = min k n
  rw [if_neg (by omega), Int.toNat_natCast]
theorem sIx_le (n d : Nat) (hd : d ≤ n) (o : Option Int) : sIx n d o ≤ n := by
  cases o with
  | none => exact hd
  | some v =>
    show (if v < 0 then (v + (n : Int)).toNat else min v.toNat n) ≤ n
    by_cases hv : v < 0
    · rw [if_pos hv]; omega
    · rw [if_neg hv]; exact Nat.min_le_right _ _
theorem clip_eq (v : Int) (n d : Nat) : (if v < 0 then max (v + (n : Int)) 0 else min v (n : Int)) = ((sIx n d (some v) : Nat) : Int) := by
  show (if v < 0 then max (v + (n : Int)) 0 else min v (n : Int)) = (((if v < 0 then (v + (n : Int)).toNat else min v.toNat n) : Nat) : Int)
  by_cases hv : v < 0
  · simp only [if_pos hv]; omega
  · simp only [if_neg hv]; omega
theorem adjust_gen (lo hi : Option Int) (n : Nat) : Builtin.Slice.sliceAdjust lo hi 1 (n : Int) = (((sIx n 0 lo : Nat) : Int), ((sIx n n hi : Nat) : Int)) := by
  have h1 : ¬ ((1 : Int) < 0) := by omega
  unfold Builtin.Slice.sliceAdjust
  simp only [h1, if_false]
  refine Prod.ext ?_ ?_
  · cases lo with
    | none => rfl
    | some v => exact clip_eq v n 0
  · cases hi with
    | none => rfl
    | some v => exact clip_eq v n n
theorem places_gen (i j : Nat) : Builtin.Slice.slicePlaces (i : Int) (j : Int) 1 = j - i := by
  unfold Builtin.Slice.slicePlaces
  have h1 : (1 : Int) > 0 := by omega
  simp only [h1, if_true, Int.ediv_one]
  split <;> omega
theorem slicePart_ {v : Value} {o : Option Int} {Q : Option Int → Shared → Prop} (p : IsPart v o) (h : Q o s) : wpAny (model prog w) A (Builtin.Slice.slicePartIndex v) Q E s := by
  cases p with
  | none => exact slicePart_none h
  | int i t => exact slicePart_int h
theorem sliceApplied_gen {sl : Addr} {vl vu : Value} {lo hi : Option Int} {n : Nat} {Q : Int × Int × Nat → Shared → Prop} (hs : s.heap.IsSliceOf sl vl vu .none) (pl : IsPart vl lo) (pu : IsPart vu hi)
    (h : Q (((sIx n 0 lo : Nat) : Int), 1, sIx n n hi - sIx n 0 lo) s) : wpAny (model prog w) A (Builtin.Slice.sliceApplied (.ref sl) (pure (n : Int))) Q E s := by
  obtain ⟨os, hos, hcs, hds⟩ := id hs
  unfold Builtin.Slice.sliceApplied Builtin.Slice.sliceFields
  refine wpAny_bind (wpAny_bind (wpAny_field hos hds (x := vl) rfl (wpAny_bind (wpAny_field hos hds (x := vu) rfl (wpAny_bind (wpAny_field hos hds (x := .none) rfl (wpAny_pure ?_)))))))
  refine wpAny_bind (slicePart_none ?_)
  show wpAny _ _ (if ((1 : Int) == 0) = true then _ else _) _ _ s
  rw [if_neg (by decide)]
  refine wpAny_bind (slicePart_ pl (wpAny_bind (slicePart_ pu (wpAny_bind (wpAny_pure ?_)))))
  show wpAny _ _ (match Builtin.Slice.sliceAdjust lo hi 1 (n : Int) with | (lo, hi) => pure (lo, (1 : Int), Builtin.Slice.slicePlaces lo hi 1)) _ _ s
  rw [adjust_gen lo hi n]
  show wpAny _ _ (pure (((sIx n 0 lo : Nat) : Int), (1 : Int), Builtin.Slice.slicePlaces ((sIx n 0 lo : Nat) : Int) ((sIx n n hi : Nat) : Int) 1)) _ _ s
  rw [places_gen]
  exact wpAny_pure h
theorem pick_gen (xs : Array Value) (i k : Nat) : ((List.range k).filterMap fun (m : Nat) => xs[((i : Int) + (m : Int) * 1).toNat]?).toArray = ((xs.toList.drop i).take k).toArray := by
  have e : (fun (m : Nat) => xs[((i : Int) + (m : Int) * 1).toNat]?) = fun m => xs[i + m]? := by
    funext m
    have : ((i : Int) + (m : Int) * 1).toNat = i + m := by omega
    rw [this]
  rw [e]
  have := pick_run xs i k
  rw [List.filterMap_map] at this
  have e2 : ((fun x => xs[x]?) ∘ fun x => i + x) = fun m => xs[i + m]? := rfl
  rw [e2] at this
  rw [this]
theorem getItem_tuple_cut {t sl : Addr} {items : Array Value} {vl vu : Value} {lo hi : Option Int} {Q : Value → Shared → Prop} (ht : IsTup s.heap t items) (hs : s.heap.IsSliceOf sl vl vu .none) (pl : IsPart vl lo) (pu : IsPart vu hi)
    (hw : ¬ (sIx items.size 0 lo = 0 ∧ sIx items.size items.size hi = items.size))
    (h : Q (.ref s.heap.objs.size) { s with heap := s.heap.push { cls := .type "tuple", data := .seq ((items.toList.drop (sIx items.size 0 lo)).take (sIx items.size items.size hi - sIx items.size 0 lo)).toArray } })
    (hsz : items.size ≤ sizeLine) : wpAny (model prog w) A (getItem (.ref t) (.ref sl)) Q E s := by
  have htake : sizeOk (.seq ((items.toList.drop (sIx items.size 0 lo)).take (sIx items.size items.size hi - sIx items.size 0 lo)).toArray) := by
    show ((items.toList.drop (sIx items.size 0 lo)).take (sIx items.size items.size hi - sIx items.size 0 lo)).toArray.size ≤ sizeLine
    rw [List.size_toArray, List.length_take, List.length_drop, Array.length_toList]
    omega
  have hj : sIx items.size items.size hi ≤ items.size := sIx_le _ _ (Nat.le_refl _) hi
  obtain ⟨os, hos, hcs, hds⟩ := id hs
  have hTs : s.TypeIs (.ref sl) "slice" := ⟨os, hos, hcs⟩
  unfold getItem
  try with_reducible refine wpAny_holding ?_
  first | refine wpAny_bind (wpAny_pure ?_) | skip
  refine wpAny_bind (wpAny_sequenceKey ht.typeIs (by decide) ?_)
  refine wpAny_bind (wpAny_callSpecial?_slot (name := Str.ofString "__getitem__") ht.typeIs PyProof.Rows.slot_tuple_getitem
    (wpAny_call_entry PyProof.Rows.slot_tuple_getitem ht.typeIs entry_tuple_getitem ?_ (args_tuple_getitem _ _)))
  show wpAny _ _ (Builtin.Tuple.tupleItemsOf (.ref t) >>= _) _ _ s
  refine wpAny_bind (tupleItemsOf_ ht ?_)
  refine wpAny_bind (wpAny_typeOf hTs ?_)
  rw [if_pos (by decide)]
  refine wpAny_bind (sliceApplied_gen hs pl pu ?_)
  have hno : ¬ ((((sIx items.size 0 lo : Nat) : Int) == 0 && (1 : Int) == 1 && (sIx items.size items.size hi - sIx items.size 0 lo) == items.size) = true) := by
    intro q
    rw [Bool.and_eq_true, Bool.and_eq_true] at q
    have q1 : ((sIx items.size 0 lo : Nat) : Int) = 0 := eq_of_beq q.1.1
    have q2 : sIx items.size items.size hi - sIx items.size 0 lo = items.size := eq_of_beq q.2
    exact hw ⟨by omega, by omega⟩
  show wpAny _ _ (if (((sIx items.size 0 lo : Nat) : Int) == 0 && (1 : Int) == 1 && (sIx items.size items.size hi - sIx items.size 0 lo) == items.size) = true then _ else _) _ _ s
  rw [if_neg hno, pick_gen]
  first
    | exact wpAny_bind (m := Builtin.Tuple.tupleExact _) (wpAny_newObj_type (wpAny_pure ⟨_, rfl, wpAny_pure h⟩) htake)
    | exact wpAny_bind (m := Builtin.Tuple.tupleExact _) (wpAny_newObj_type (wpAny_bind (wpAny_pure (wpAny_pure ⟨_, rfl, wpAny_pure h⟩))) htake)
    | exact wpAny_bind (wpAny_bind (m := Builtin.Tuple.tupleExact _) (wpAny_newObj_type (wpAny_pure (wpAny_pure ⟨_, rfl, wpAny_pure h⟩)) htake))
    | exact wpAny_bind (wpAny_bind (m := Builtin.Tuple.tupleExact _) (wpAny_newObj_type (wpAny_pure ⟨_, rfl, wpAny_pure h⟩) htake))
end
end HT
namespace L2
open PySem PySem.Spec PyProof.Rows
noncomputable abbrev TO := St → Hp → (Option Int → Hp → Prop) → Prop
noncomputable def PO (X : Cx) (e : Option Expr) (t : TO) : Prop :=
  ∀ (pins : List (Addr × Obj)) (s : Shared) (σ : St) (H : Hp) (Q : Option Int → Hp → Prop), Inv X pins σ H s → t σ H Q →
    wpAny (model X.prog X.w) X.A (evalPart e X.env) (fun u s' => ∃ o H', Inv X pins σ H' s' ∧ IsPart u o ∧ Q o H') X.xe s
noncomputable def tNoPart : TO := fun _ H Q => Q none H
noncomputable def tPart (t : TE) : TO := fun σ H Q => t σ H fun x H1 => ∃ i, x = .int i ∧ Q (some i) H1
section
variable {X : Cx} {e : Expr} {te : TE} {lo hi : Option Expr} {tl th : TO} {pos p2 : Pos}
theorem po_none : PO X none tNoPart := by
  intro pins s σ H Q I h
  rw [evalPart_none]
  exact wpAny_pure ⟨none, H, I, .none, h⟩
theorem po_some (h : PE X e te) : PO X (some e) (tPart te) := by
  intro pins s σ H Q I hw
  rw [evalPart_some]
  refine thn (h pins s σ H _ I hw) fun u s1 ⟨x, H1, I1, r1, q1⟩ => ?_
  obtain ⟨i, rfl, q⟩ := q1
  obtain ⟨t, rfl⟩ := r1
  exact ⟨some i, H1, I1, .int i t, q⟩
noncomputable def SlR (X : Cx) (r : V → Option Int → Option Int → Hp → VK → Prop) : Prop :=
  ∀ (pins : List (Addr × Obj)) (s : Shared) (σ : St) (H : Hp) (x : V) (v vl vu : Value) (lo hi : Option Int) (sl : Addr) (Q : VK), Inv X pins σ H s → RelV x v → s.heap.IsSliceOf sl vl vu .none → IsPart vl lo → IsPart vu hi → r x lo hi H Q →
    ∃ T id, typeLookup (.type T) "__getitem__" = pure (some (.builtin id)) ∧ s.TypeIs v T ∧ wpAny (model X.prog X.w) X.A (getItem v (.ref sl)) (EP X pins σ Q) X.xe s
theorem SlR.or {r r' : V → Option Int → Option Int → Hp → VK → Prop} (h : SlR X r) (h' : SlR X r') : SlR X (fun x lo hi H Q => r x lo hi H Q ∨ r' x lo hi H Q) := by
  intro pins s σ H x v vl vu lo hi sl Q I rx hs pl pu q
  rcases q with q | q
  · exact h pins s σ H x v vl vu lo hi sl Q I rx hs pl pu q
  · exact h' pins s σ H x v vl vu lo hi sl Q I rx hs pl pu q
noncomputable def tSl (r : V → Option Int → Option Int → Hp → VK → Prop) (te : TE) (tl th : TO) : TE := fun σ H Q => te σ H fun x H1 => tl σ H1 fun l H2 => th σ H2 fun u H3 => r x l u H3 Q
theorem pe_slice {r : V → Option Int → Option Int → Hp → VK → Prop} (hr : SlR X r) (he : PE X e te) (hl : PO X lo tl) (hu : PO X hi th) : PE X (.Subscript e (.Slice lo hi none p2) pos) (tSl r te tl th) := by
  intro pins s σ H Q I h
  refine Subscript_ (thn (he pins s σ H _ I h) fun v s1 ⟨x, H1, I1, r1, q1⟩ => ?_)
  refine wpAny_Slice (thn (hl pins s1 σ H1 _ I1 q1) fun vl s2 ⟨l, H2, I2, pl, q2⟩ => thn (hu pins s2 σ H2 _ I2 q2) fun vu s3 ⟨u, H3, I3, pu, q3⟩ => ?_)
  rw [evalPart_none]
  refine wpAny_pure ?_
  have I4 : Inv X pins σ H3 { s3 with heap := s3.heap.push { cls := .type "slice", data := .fields #[vl, vu, .none] } } := I3.kept (t' := s3.toks) fun b ob q => Heap.get?_push_of_some _ q
  obtain ⟨T, id, hT, ht, hg⟩ := hr pins { s3 with heap := s3.heap.push { cls := .type "slice", data := .fields #[vl, vu, .none] } } σ H3 x v vl vu l u s3.heap.objs.size Q I4 r1 (Heap.IsSliceOf.new ..) pl pu q3
  show wpAny (model X.prog X.w) X.A (subscriptTail e (.Slice lo hi none p2) v (.ref s3.heap.objs.size)) (EP X pins σ Q) X.xe { s3 with heap := s3.heap.push { cls := .type "slice", data := .fields #[vl, vu, .none] } }
  exact tail_any (ops := [.ref s3.heap.objs.size, v]) ht hT hg (by with_unfolding_all rfl)
noncomputable def cutV (xs : List V) (lo hi : Option Int) : List V := (xs.drop (HT.sIx xs.length 0 lo)).take (HT.sIx xs.length xs.length hi - HT.sIx xs.length 0 lo)
theorem cutV_length (xs : List V) (lo hi : Option Int) : (cutV xs lo hi).length ≤ xs.length := by
  unfold cutV
  rw [List.length_take, List.length_drop]
  omega
noncomputable def rSlT (K : PySem.W.Frag) : V → Option Int → Option Int → Hp → VK → Prop := fun x lo hi H Q => ∃ a xs, x = .ref a ∧ SqT K H a xs ∧
  ¬ (HT.sIx xs.length 0 lo = 0 ∧ HT.sIx xs.length xs.length hi = xs.length) ∧ ∀ p, H p = none → Q (.ref p) (upd H p (.tup (cutV xs lo hi)))
theorem sl_tup : SlR X (rSlT X.K) := by
  intro pins s σ H x v vl vu lo hi sl Q I rx hs pl pu h
  obtain ⟨a, xs, rfl, hx, hw, q⟩ := h
  cases rx
  obtain ⟨its, r, ht, hz⟩ := I.tuple hx
  have hlen : its.toArray.size = xs.length := by rw [List.size_toArray]; exact r.length.symm
  refine ⟨"tuple", _, PyProof.Rows.slot_tuple_getitem.lookup, ht.typeIs, ?_⟩
  refine HT.getItem_tuple_cut ht hs pl pu (by rw [hlen]; exact hw) ?_ (by rw [hlen]; exact hz)
  rw [hlen]
  refine ⟨.ref s.heap.objs.size, _, I.laid (t' := s.toks) (o := .tup (cutV xs lo hi)) (fun b ob q => Heap.get?_push_of_some _ q) (Nat.le_refl _) ?_, rfl, q _ (I.hok.fresh (Nat.le_refl _))⟩
  exact ⟨Nat.le_trans (cutV_length xs lo hi) hz, _, (r.drop (HT.sIx xs.length 0 lo)).take (HT.sIx xs.length xs.length hi - HT.sIx xs.length 0 lo), IsTup.new _ _⟩
noncomputable def rCatT (K : PySem.W.Frag) : R2 := fun x y H Q => ∃ a b xs ys, x = .ref a ∧ y = .ref b ∧ SqT K H a xs ∧ SqT K H b ys ∧ xs ≠ [] ∧ xs.length + ys.length ≤ sizeLine ∧
  (ys = [] → Q (.ref a) H) ∧ (ys ≠ [] → ∀ p, H p = none → Q (.ref p) (upd H p (.tup (xs ++ ys))))
theorem Vals.nil_iff {xs : List V} {us : List Value} (r : Vals xs us) : us = [] ↔ xs = [] := by
  cases r with
  | nil => simp
  | cons _ _ => simp
theorem op_catT : OpR X (binaryOp .Add) (rCatT X.K) := by
  intro pins s σ H x y v u Q I rx ry h
  obtain ⟨a, b, xs, ys, rfl, rfl, ha, hb, hx, hz, q1, q2⟩ := h
  cases rx
  cases ry
  obtain ⟨its, r1, p1, _⟩ := I.tuple ha
  obtain ⟨its2, r2, p2, _⟩ := I.tuple hb
  refine HT.cat_tup p1 p2 (fun z => hx (r1.nil_iff.mp z)) (fun z => ⟨.ref a, H, I, rfl, q1 (r2.nil_iff.mp z)⟩) (fun z => ?_) (by rw [← r1.length, ← r2.length]; exact hz)
  refine ⟨.ref s.heap.objs.size, _, I.laid (t' := s.toks) (o := .tup (xs ++ ys)) (fun b ob q => Heap.get?_push_of_some _ q) (Nat.le_refl _) ?_, rfl, q2 (fun w => z (r2.nil_iff.mpr w)) _ (I.hok.fresh (Nat.le_refl _))⟩
  exact ⟨by rw [List.length_append]; exact hz, _, r1.append r2, IsTup.new _ _⟩
end
end L2
namespace L2
open PySem PySem.Spec PyProof.Rows
noncomputable def ixN (n : Nat) (i : Int) : Option Nat := if 0 ≤ i then (if i < n then some i.toNat else none) else if -(n : Int) ≤ i then some (i + n).toNat else none
noncomputable def atI {α : Type} (xs : List α) (i : Int) : Option α := (ixN xs.length i).bind fun j => xs[j]?
theorem ixN_seq {n : Nat} {i : Int} {j : Nat} (h : ixN n i = some j) : seqIndex? i n = some j ∧ j < n ∧ -(n : Int) ≤ i ∧ i < n := by
  unfold ixN at h
  by_cases h0 : 0 ≤ i
  · rw [if_pos h0] at h
    by_cases h1 : i < n
    · rw [if_pos h1] at h
      have e : i.toNat = j := Option.some.inj h
      exact ⟨by rw [seqIndex_of h0 h1, e], by omega, by omega, h1⟩
    · rw [if_neg h1] at h; cases h
  · rw [if_neg h0] at h
    by_cases h1 : -(n : Int) ≤ i
    · rw [if_pos h1] at h
      have e : (i + n).toNat = j := Option.some.inj h
      exact ⟨by rw [seqIndex_neg (by omega) h1, e], by omega, h1, by omega⟩
    · rw [if_neg h1] at h; cases h
theorem atI_get {α : Type} {xs : List α} {i : Int} {v : α} (h : atI xs i = some v) : ∃ j, seqIndex? i xs.length = some j ∧ xs[j]? = some v ∧ j < xs.length ∧ -(xs.length : Int) ≤ i ∧ i < xs.length := by
  unfold atI at h
  cases e : ixN xs.length i with
  | none => rw [e] at h; cases h
  | some j =>
    rw [e] at h
    obtain ⟨h1, h2, h3, h4⟩ := ixN_seq e
    exact ⟨j, h1, h, h2, h3, h4⟩
theorem atI_nat {α : Type} {xs : List α} {j : Nat} {v : α} (h : xs[j]? = some v) : atI xs (j : Int) = some v := by
  have hj : j < xs.length := (List.getElem?_eq_some_iff.mp h).1
  have e : ixN xs.length (j : Int) = some j := by
    unfold ixN
    rw [if_pos (by omega), if_pos (by omega)]; simp
  unfold atI; rw [e]; exact h
noncomputable def PlainIx (b : Expr) : Prop := ∀ o i, subscripted b false o i = operate [o, i] (getItem o i)
noncomputable def IxR (X : Cx) (r : R2) : Prop :=
  ∀ (value slice : Expr) (pins : List (Addr × Obj)) (s : Shared) (σ : St) (H : Hp) (x y : V) (v u : Value) (Q : VK), Inv X pins σ H s → RelV x v → RelV y u → r x y H Q →
    subscripted slice false v u = operate [v, u] (getItem v u) → wpAny (model X.prog X.w) X.A (subscriptTail value slice v u) (EP X pins σ Q) X.xe s
noncomputable def MtR (X : Cx) (id : String) (r : V → List V → Hp → VK → Prop) : Prop :=
  ∀ (pins : List (Addr × Obj)) (s : Shared) (σ : St) (H : Hp) (x : V) (xs : List V) (v : Value) (us : List Value) (Q : VK), Inv X pins σ H s → RelV x v → Vals xs us → r x xs H Q →
    wpAny (model X.prog X.w) X.A (call (.builtin id) (v :: us)) (EP X pins σ Q) X.xe s
section
variable {X : Cx} {a b : Expr} {ta tb : TE} {pos : Pos}
theorem IxR.or {r r' : R2} (h : IxR X r) (h' : IxR X r') : IxR X (fun x y H Q => r x y H Q ∨ r' x y H Q) := by
  intro value slice pins s σ H x y v u Q I rx ry q hs
  rcases q with q | q
  · exact h value slice pins s σ H x y v u Q I rx ry q hs
  · exact h' value slice pins s σ H x y v u Q I rx ry q hs
theorem MtR.or {id : String} {r r' : V → List V → Hp → VK → Prop} (h : MtR X id r) (h' : MtR X id r') : MtR X id (fun x xs H Q => r x xs H Q ∨ r' x xs H Q) := by
  intro pins s σ H x xs v us Q I rx rs q
  rcases q with q | q
  · exact h pins s σ H x xs v us Q I rx rs q
  · exact h' pins s σ H x xs v us Q I rx rs q
theorem pe_ix {r : R2} (hr : IxR X r) (ha : PE X a ta) (hb : PE X b tb) (hs : PlainIx b) : PE X (.Subscript a b pos) (tOp r ta tb) := by
  intro pins s σ H Q I h
  exact Subscript_ (binT ha hb I h fun v u s2 x y H2 I2 rx ry q => hr a b pins s2 σ H2 x y v u Q I2 rx ry q (hs _ _))
noncomputable def rIxL (K : PySem.W.Frag) : R2 := fun x y H Q => ∃ p xs i v, x = .ref p ∧ y = .int i ∧ SqL K H p xs ∧ atI xs i = some v ∧ Q v H
noncomputable def rIxT (K : PySem.W.Frag) : R2 := fun x y H Q => ∃ p xs i v, x = .ref p ∧ y = .int i ∧ SqT K H p xs ∧ atI xs i = some v ∧ Q v H
noncomputable def rIxS : R2 := fun x y H Q => ∃ z i c, x = .str z ∧ y = .int i ∧ z.length ≤ sizeLine ∧ atI z.cps.toList i = some c ∧ Q (.str ⟨#[c]⟩) H
theorem ix_list : IxR X (rIxL X.K) := by
  intro value slice pins s σ H x y v u Q I rx ry h hs
  obtain ⟨p, xs, i, z, rfl, rfl, hq, he, q⟩ := h
  cases rx
  obtain ⟨t, rfl⟩ := ry
  obtain ⟨its, r, pl, hz⟩ := I.list hq
  obtain ⟨j, h1, h2, h3, h4, h5⟩ := atI_get he
  obtain ⟨w, ew, rw'⟩ := r.get h2
  have hl := r.length
  have hn := line63
  have fin : EP X pins σ Q w s := ⟨z, H, I, rw', q⟩
  by_cases h0 : 0 ≤ i
  · have hj : i.toNat = j := by
      rw [seqIndex_of h0 h5] at h1
      exact Option.some.inj h1
    exact item_listR pl.isList h0 (by omega) (by rw [hj]; simpa using ew) fin hs
  · have hj : (i + (its.toArray.size : Int)).toNat = j := by
      rw [seqIndex_neg (by omega) h4] at h1
      rw [List.size_toArray, ← hl]
      exact Option.some.inj h1
    exact subscriptTail_builtinR (x := w) pl.isList.typeIs slot_list_getitem.lookup
      (wpAny_getItem_list_neg (Q := fun r s' => r = w ∧ EP X pins σ Q r s') pl.isList (by omega) (by rw [List.size_toArray] <;> omega) (by omega) (by rw [hj]; simpa using ew) ⟨rfl, fin⟩) hs
theorem ix_tup : IxR X (rIxT X.K) := by
  intro value slice pins s σ H x y v u Q I rx ry h hs
  obtain ⟨p, xs, i, z, rfl, rfl, hq, he, q⟩ := h
  cases rx
  obtain ⟨t, rfl⟩ := ry
  obtain ⟨its, r, pl, hz⟩ := I.tuple hq
  obtain ⟨j, h1, h2, h3, h4, h5⟩ := atI_get he
  obtain ⟨w, ew, rw'⟩ := r.get h2
  have hl := r.length
  have hn := line63
  have fin : EP X pins σ Q w s := ⟨z, H, I, rw', q⟩
  exact subscriptTail_builtinR (x := w) pl.typeIs slot_tuple_getitem.lookup
    (getItem_tuple (j := j) (Q := fun r s' => r = w ∧ EP X pins σ Q r s') pl (by omega) (by omega) (by rw [List.size_toArray, ← hl]; exact h1) (by simpa using ew) ⟨rfl, fin⟩) hs
theorem ix_str : IxR X rIxS := by
  intro value slice pins s σ H x y v u Q I rx ry h hs
  obtain ⟨z, i, c, rfl, rfl, hz, he, q⟩ := h
  obtain ⟨t, rfl⟩ := rx
  obtain ⟨t', rfl⟩ := ry
  obtain ⟨j, h1, h2, h3, h4, h5⟩ := atI_get he
  have hl : z.cps.toList.length = z.length := by simp [Str.length]
  rw [hl] at h1 h4 h5
  have hn := line63
  exact tail_any (typeIs_str s z t) slot_str_getitem.lookup (getItem_str (c := c) (by
    have e1 : decide (i < -(2 ^ 63 : Int)) = false := decide_eq_false (by omega)
    have e2 : decide (i ≥ 2 ^ 63) = false := decide_eq_false (by omega)
    rw [e1, e2, Bool.or_false]) (by rw [h1]; simpa using h2) ⟨.str ⟨#[c]⟩, H, I.tok _, ⟨_, rfl⟩, q⟩) hs
noncomputable def rIx (K : PySem.W.Frag) : R2 := fun x y H Q => rIxL K x y H Q ∨ rIxT K x y H Q ∨ rIxS x y H Q
theorem ix_seq : IxR X (rIx X.K) := ix_list.or (ix_tup.or ix_str)
theorem mapSeq_set (its : List Value) (n j : Nat) (u : Value) : Obj.mapSeq (·.setIfInBounds j u) { cls := .type "list", data := .seq its.toArray n } = { cls := .type "list", data := .seq (its.set j u).toArray n } := by
  simp [Obj.mapSeq]
theorem Inv.lst {pins : List (Addr × Obj)} {σ : St} {H : Hp} {s : Shared} {p : Addr} {xs : List V} (I : Inv X pins σ H s) (h : H p = some (.lst xs)) :
    ∃ (its : List Value) (n : Nat), Vals xs its ∧ s.heap.get? p = some { cls := .type "list", data := .seq its.toArray n } ∧ xs.length ≤ sizeLine := by
  obtain ⟨z, its, n, r, e⟩ := I.hok p _ h
  exact ⟨its, n, r, e, z⟩
theorem Inv.lstUpd {pins : List (Addr × Obj)} {σ : St} {H : Hp} {s : Shared} {p : Addr} {xs ys : List V} {its its' : List Value} {n n' : Nat} {f : Obj → Obj} (I : Inv X pins σ H s) (h : H p = some (.lst xs))
    (ho : s.heap.get? p = some { cls := .type "list", data := .seq its.toArray n }) (hf : f { cls := .type "list", data := .seq its.toArray n } = { cls := .type "list", data := .seq its'.toArray n' }) (r : Vals ys its') (hz : ys.length ≤ sizeLine) (t : Nat) :
    Inv X pins σ (upd H p (.lst ys)) { s with heap := s.heap.update p f, toks := t } := by
  have e : (s.heap.update p f).get? p = some { cls := .type "list", data := .seq its'.toArray n' } := by
    rw [Heap.get?_update_self f ho (by rw [hf] <;> rfl), hf]
  refine I.write (x := p) (e := p) (by rw [h]; trivial) (.inl rfl) (fun b u hb q => (Heap.get?_update_other _ _ (Ne.symm hb)).trans q) ⟨_, e⟩ ?_
  exact ⟨hz, its', n', r, e⟩
noncomputable def rSetL : V → V → V → Hp → (Hp → Prop) → Prop := fun o i v H Q => ∃ p xs k j, o = .ref p ∧ i = .int k ∧ H p = some (.lst xs) ∧ ixN xs.length k = some j ∧ Q (upd H p (.lst (xs.set j v)))
theorem set_list : PSet X rSetL := by
  intro pins s σ H o i v ov iv u Q I ro ri rv h
  obtain ⟨p, xs, k, j, rfl, rfl, hp, hj, q⟩ := h
  cases ro
  obtain ⟨t, rfl⟩ := ri
  obtain ⟨its, n, r, ho, hz⟩ := I.lst hp
  obtain ⟨h1, h2, h3, h4⟩ := ixN_seq hj
  have hl := r.length
  have hn := line63
  have I' : Inv X pins σ (upd H p (.lst (xs.set j v))) { s with heap := s.heap.update p (Obj.mapSeq (·.setIfInBounds j u)) } :=
    I.lstUpd hp ho (mapSeq_set its n j u) (r.set rv j) (by rw [List.length_set]; exact hz) s.toks
  by_cases h0 : 0 ≤ k
  · have hk : k.toNat = j := by
      rw [seqIndex_of h0 h4] at h1
      exact Option.some.inj h1
    exact PySem.W.ki_setAt ho h0 (by omega) (by rw [List.size_toArray, ← hl]; exact h4) (by rw [hk]; exact ⟨_, I', q⟩)
  · have hk : (k + (its.toArray.size : Int)).toNat = j := by
      rw [seqIndex_neg (by omega) h3] at h1
      rw [List.size_toArray, ← hl]
      exact Option.some.inj h1
    exact PySem.W.ki_setBack ho (by omega) (by rw [List.size_toArray, ← hl]; exact h3) (by omega) (by rw [hk]; exact ⟨_, I', q⟩)
theorem slice_bounds (lo hi : Option Int) (n : Nat) : (sliceBounds lo hi none n).1 = ((HT.sIx n 0 lo : Nat) : Int) ∧ (sliceBounds lo hi none n).2.1 = ((HT.sIx n n hi : Nat) : Int) ∧ (sliceBounds lo hi none n).2.2 = 1 := by
  refine ⟨?_, ?_, rfl⟩
  · cases lo with
    | none => simp [sliceBounds, HT.sIx]
    | some i =>
      simp only [sliceBounds, HT.sIx, Option.getD_none, show (1 : Int) > 0 by decide, if_true]
      by_cases h : i < 0
      · simp only [h, if_true] <;> omega
      · simp only [h, if_false] <;> omega
  · cases hi with
    | none => simp [sliceBounds, HT.sIx]
    | some i =>
      simp only [sliceBounds, HT.sIx, Option.getD_none, show (1 : Int) > 0 by decide, if_true]
      by_cases h : i < 0
      · simp only [h, if_true] <;> omega
      · simp only [h, if_false] <;> omega
theorem slicePick_cut (its : List Value) (lo hi : Option Int) : slicePick its.toArray lo hi none = ((its.drop (HT.sIx its.length 0 lo)).take (HT.sIx its.length its.length hi - HT.sIx its.length 0 lo)).toArray := by
  obtain ⟨h1, h2, h3⟩ := slice_bounds lo hi its.toArray.size
  unfold slicePick
  rw [h1, h2, h3]
  simp only [sliceRange_one, pick_run, List.size_toArray] <;> rfl
noncomputable def rSlL (K : PySem.W.Frag) : V → Option Int → Option Int → Hp → VK → Prop := fun x lo hi H Q => ∃ a xs, x = .ref a ∧ SqL K H a xs ∧ ∀ p, H p = none → Q (.ref p) (upd H p (.lst (cutV xs lo hi)))
theorem sl_list : SlR X (rSlL X.K) := by
  intro pins s σ H x v vl vu lo hi sl Q I rx hs pl pu h
  obtain ⟨a, xs, rfl, hx, q⟩ := h
  cases rx
  obtain ⟨its, r, ht, hz⟩ := I.list hx
  have hlen := r.length
  refine ⟨"list", _, slot_list_getitem.lookup, ht.isList.typeIs, ?_⟩
  refine wpAny_getItem_list_slice ht.isList hs pl pu .none (by simp) ?_ (by rw [List.size_toArray] <;> omega)
  rw [slicePick_cut, ← hlen]
  refine ⟨.ref s.heap.objs.size, _, I.laid (t' := s.toks) (o := .lst (cutV xs lo hi)) (fun b ob q => Heap.get?_push_of_some _ q) (Nat.le_refl _) ?_, rfl, q _ (I.hok.fresh (Nat.le_refl _))⟩
  exact ⟨Nat.le_trans (cutV_length xs lo hi) hz, _, 0, (r.drop (HT.sIx xs.length 0 lo)).take (HT.sIx xs.length xs.length hi - HT.sIx xs.length 0 lo), Heap.get?_push_size _ rfl⟩
noncomputable def flatV : V → Bool
  | .non => true
  | .bl _ => true
  | .int _ => true
  | .str _ => true
  | _ => false
noncomputable def eqV : V → V → Bool
  | .non, .non => true
  | .bl a, .bl b => a == b
  | .bl a, .int b => (if a then 1 else 0) == b
  | .int a, .bl b => a == (if b then 1 else 0)
  | .int a, .int b => a == b
  | .str a, .str b => a == b
  | _, _ => false
theorem eqAt_V {A : Around} {s : Shared} {y x : V} {u v : Value} (ry : RelV y u) (rx : RelV x v) (fy : flatV y = true) (fx : flatV x = true) : SeqAt.EqAt A s u v (eqV y x) := by
  cases y with
  | non =>
    cases ry
    cases x with
    | non => cases rx; exact SeqAt.EqAt.same _
    | bl b => cases rx; exact SeqAt.EqAt.none_bool b
    | int b => obtain ⟨t, rfl⟩ := rx; exact SeqAt.EqAt.none_int b t
    | str b => obtain ⟨t, rfl⟩ := rx; exact SeqAt.EqAt.none_str b t
    | _ => exact absurd (show false = true from fx) Bool.false_ne_true
  | bl a =>
    cases ry
    cases x with
    | non => cases rx; exact SeqAt.EqAt.bool_none a
    | bl b => cases rx; exact SeqAt.EqAt.bool_bool a b
    | int b => obtain ⟨t, rfl⟩ := rx; exact SeqAt.EqAt.bool_int a b t
    | str b => obtain ⟨t, rfl⟩ := rx; exact SeqAt.EqAt.bool_str a b t
    | _ => exact absurd (show false = true from fx) Bool.false_ne_true
  | int a =>
    obtain ⟨t', rfl⟩ := ry
    cases x with
    | non => cases rx; exact SeqAt.EqAt.int_none a t'
    | bl b => cases rx; exact SeqAt.EqAt.int_bool a t' b
    | int b => obtain ⟨t, rfl⟩ := rx; exact SeqAt.EqAt.int_int a t' b t
    | str b => obtain ⟨t, rfl⟩ := rx; exact SeqAt.EqAt.int_str a t' b t
    | _ => exact absurd (show false = true from fx) Bool.false_ne_true
  | str a =>
    obtain ⟨t', rfl⟩ := ry
    cases x with
    | non => cases rx; exact SeqAt.EqAt.str_none a t'
    | bl b => cases rx; exact SeqAt.EqAt.str_bool a t' b
    | int b => obtain ⟨t, rfl⟩ := rx; exact SeqAt.EqAt.str_int a t' b t
    | str b => obtain ⟨t, rfl⟩ := rx; exact SeqAt.EqAt.str_str a t' b t
    | _ => exact absurd (show false = true from fx) Bool.false_ne_true
  | _ => exact absurd (show false = true from fy) Bool.false_ne_true
noncomputable def eqU (x : V) (u : Value) : Bool := match u with
  | .none => eqV .non x
  | .bool b => eqV (.bl b) x
  | .int i _ => eqV (.int i) x
  | .str z _ => eqV (.str z) x
  | _ => false
theorem eqU_of {x y : V} {u : Value} (r : RelV y u) (f : flatV y = true) : eqU x u = eqV y x := by
  cases y with
  | non => cases r; rfl
  | bl b => cases r; rfl
  | int i => obtain ⟨t, rfl⟩ := r; rfl
  | str z => obtain ⟨t, rfl⟩ := r; rfl
  | _ => exact absurd (show false = true from f) Bool.false_ne_true
theorem any_eqU {x : V} : ∀ {xs : List V} {us : List Value}, Vals xs us → xs.all flatV = true → us.any (eqU x) = xs.any fun y => eqV y x
  | _, _, .nil, _ => rfl
  | y :: xs, u :: us, .cons r t, f => by
    rw [List.all_cons, Bool.and_eq_true] at f
    rw [List.any_cons, List.any_cons, eqU_of r f.1, any_eqU t f.2]
theorem mem_eqAt {A : Around} {s : Shared} {x : V} {v : Value} (rx : RelV x v) (fx : flatV x = true) : ∀ {xs : List V} {us : List Value}, Vals xs us → xs.all flatV = true → ∀ u ∈ us, SeqAt.EqAt A s u v (eqU x u)
  | _, _, .nil, _ => fun u hu => by cases hu
  | y :: xs, u :: us, .cons r t, f => fun u' hu => by
    rw [List.all_cons, Bool.and_eq_true] at f
    rcases List.mem_cons.mp hu with rfl | hu
    · rw [eqU_of r f.1]; exact eqAt_V r rx f.1 fx
    · exact mem_eqAt rx fx t f.2 u' hu
noncomputable def inV (x : V) (xs : List V) : Bool := xs.any fun y => eqV y x
noncomputable def rIn (K : PySem.W.Frag) (neg : Bool) : R2 := fun x y H Q => ∃ p xs, y = .ref p ∧ (SqL K H p xs ∨ SqT K H p xs) ∧ flatV x = true ∧ xs.all flatV = true ∧ Q (.bl (if neg then !inV x xs else inV x xs)) H
theorem op_in_seq : OpR X (compareOp .In) (rIn X.K false) := by
  intro pins s σ H x y v u Q I rx ry h
  obtain ⟨p, xs, rfl, hq, fx, fs, q⟩ := h
  cases ry
  rcases hq with hq | hq
  · obtain ⟨its, r, pl, hz⟩ := I.list hq
    refine SeqAt.in_listAt (eqU x) pl.isList (fun w hw => mem_eqAt rx fx r fs w (by simpa using hw)) ⟨.bl _, H, I, rfl, ?_⟩
    rw [show its.toArray.any (eqU x) = its.any (eqU x) by simp, any_eqU r fs]
    exact q
  · obtain ⟨its, r, pl, hz⟩ := I.tuple hq
    refine SeqAt.in_tupleAt (eqU x) pl (fun w hw => mem_eqAt rx fx r fs w (by simpa using hw)) ⟨.bl _, H, I, rfl, ?_⟩
    rw [show its.toArray.any (eqU x) = its.any (eqU x) by simp, any_eqU r fs]
    exact q
theorem op_notIn_seq : OpR X (compareOp .NotIn) (rIn X.K true) := by
  intro pins s σ H x y v u Q I rx ry h
  obtain ⟨p, xs, rfl, hq, fx, fs, q⟩ := h
  cases ry
  rcases hq with hq | hq
  · obtain ⟨its, r, pl, hz⟩ := I.list hq
    refine SeqAt.notIn_listAt (eqU x) pl.isList (fun w hw => mem_eqAt rx fx r fs w (by simpa using hw)) ⟨.bl _, H, I, rfl, ?_⟩
    rw [show its.toArray.any (eqU x) = its.any (eqU x) by simp, any_eqU r fs]
    exact q
  · obtain ⟨its, r, pl, hz⟩ := I.tuple hq
    refine SeqAt.notIn_tupleAt (eqU x) pl (fun w hw => mem_eqAt rx fx r fs w (by simpa using hw)) ⟨.bl _, H, I, rfl, ?_⟩
    rw [show its.toArray.any (eqU x) = its.any (eqU x) by simp, any_eqU r fs]
    exact q
theorem op_notIn_str : OpR X (compareOp .NotIn) (fun x y H Q => ∃ i j, x = .str i ∧ y = .str j ∧ Q (.bl (!(!(Builtin.Str.occurrences j i 0 j.length 1).isEmpty))) H) := by
  intro pins s σ H x y v u Q I rx ry h
  obtain ⟨i, j, rfl, rfl, q⟩ := h
  obtain ⟨t, rfl⟩ := rx
  obtain ⟨t', rfl⟩ := ry
  exact notIn_str ⟨.bl _, H, I, rfl, q⟩
theorem CallR.or {f : Value} {r r' : List V → Hp → VK → Prop} (h : CallR X f r) (h' : CallR X f r') : CallR X f (fun xs H Q => r xs H Q ∨ r' xs H Q) := by
  intro pins s σ H xs us Q I rs q
  rcases q with q | q
  · exact h pins s σ H xs us Q I rs q
  · exact h' pins s σ H xs us Q I rs q
theorem call_list_of : CallR X (.type "list") (fun xs H Q => ∃ p ys, xs = [.ref p] ∧ (SqL X.K H p ys ∨ SqT X.K H p ys) ∧ ∀ l, H l = none → Q (.ref l) (upd H l (.lst ys))) := by
  intro pins s σ H xs us Q I r h
  obtain ⟨p, ys, rfl, hq, q⟩ := h
  obtain ⟨u, rfl, rx⟩ := vals1 r
  cases rx
  have fin : ∀ (its : List Value), Vals ys its → ys.length ≤ sizeLine → ∀ (h' : Heap) (c' : Nat), (∀ b o', s.heap.get? b = some o' → h'.get? b = some o') →
      h'.get? s.heap.objs.size = some { cls := .type "list", dict := none, data := .seq its.toArray c', slots := #[] } → EP X pins σ Q (.ref s.heap.objs.size) { s with heap := h' } := fun its r' hz h' c' kp e =>
    ⟨.ref s.heap.objs.size, _, I.laid (t' := s.toks) kp (Nat.le_refl _) (show ObjOk X.prog X.w _ h' _ (.lst ys) from ⟨hz, its, c', r', e⟩), rfl, q _ (I.hok.fresh (Nat.le_refl _))⟩
  rcases hq with hq | hq
  · obtain ⟨its, r', pl, hz⟩ := I.list hq
    have hlen := r'.length
    obtain ⟨o, ho, hc, n, hd⟩ := pl.isList
    exact call_list_seq p (.inl rfl) ho hc hd (fun h' c' kp e => fin its r' hz h' c' kp e) (by simp only [List.size_toArray] <;> omega)
  · obtain ⟨its, r', pl, hz⟩ := I.tuple hq
    have hlen := r'.length
    obtain ⟨o, ho, hc, n, hd⟩ := pl
    exact call_list_seq p (.inr rfl) ho hc hd (fun h' c' kp e => fin its r' hz h' c' kp e) (by simp only [List.size_toArray] <;> omega)
noncomputable def tyV (K : PySem.W.Frag) (T : String) (x : V) (H : Hp) : Prop := match x with
  | .str _ => T = "str"
  | .int _ => T = "int"
  | .ref p => (T = "list" ∧ ∃ xs, SqL K H p xs) ∨ (T = "tuple" ∧ ∃ o, K.lookup p = some o ∧ o.cls = .type "tuple" ∧ o.dict = none) ∨
      (T = "dict" ∧ ((∃ kvs, H p = some (.dK kvs)) ∨ ∃ kvs, H p = some (.dT kvs))) ∨ (T = "set" ∧ ∃ S n, H p = some (.set S n))
  | _ => False
theorem tyV_is {pins : List (Addr × Obj)} {σ : St} {H : Hp} {s : Shared} {T : String} {x : V} {v : Value} (I : Inv X pins σ H s) (r : RelV x v) (ty : tyV X.K T x H) :
    s.TypeIs v T ∧ ∀ a, v = .ref a → ∃ ob, s.heap.get? a = some ob ∧ ob.dict = none := by
  cases x with
  | str z =>
    obtain ⟨t, rfl⟩ := r
    cases (show T = "str" from ty)
    exact ⟨typeIs_str s z t, fun _ e => nomatch e⟩
  | int i =>
    obtain ⟨t, rfl⟩ := r
    cases (show T = "int" from ty)
    exact ⟨typeIs_int s i t, fun _ e => nomatch e⟩
  | ref p =>
    cases r
    rcases ty with ⟨rfl, xs, hq⟩ | ⟨rfl, o, hk, hc, hd⟩ | ⟨rfl, hk⟩ | ⟨rfl, S, n, hk⟩
    · obtain ⟨its, _, pl, _⟩ := I.list hq
      refine ⟨pl.isList.typeIs, fun a e => ?_⟩
      cases e
      obtain ⟨o, n, e, c, hd, _⟩ := pl
      exact ⟨o, e, hd⟩
    · refine ⟨⟨o, I.kIn p o hk, hc⟩, fun a e => ?_⟩
      cases e
      exact ⟨o, I.kIn _ o hk, hd⟩
    · have z : ∃ o, s.heap.get? p = some o ∧ o.ExactDict := by
        rcases hk with ⟨kvs, hk⟩ | ⟨kvs, hk⟩
        · obtain ⟨_, _, _, _, o, _, _, e, ex, _⟩ := I.hok p _ hk
          exact ⟨o, e, ex⟩
        · obtain ⟨_, _, _, _, o, _, _, e, ex, _⟩ := I.hok p _ hk
          exact ⟨o, e, ex⟩
      obtain ⟨o, e, ex⟩ := z
      refine ⟨⟨o, e, ex.1⟩, fun a e2 => ?_⟩
      cases e2
      exact ⟨o, e, ex.2.1⟩
    · obtain ⟨o, _, _, _, e, ex, _⟩ := I.hok p _ hk
      refine ⟨⟨o, e, ex.1⟩, fun a e2 => ?_⟩
      cases e2
      exact ⟨o, e, ex.2.1⟩
  | _ => exact False.elim ty
noncomputable def tBM (K : PySem.W.Frag) (T : String) (r : V → List V → Hp → VK → Prop) (to : TE) (t : TA) : TE := fun σ H Q => to σ H fun x H1 => tyV K T x H1 ∧ t σ H1 fun xs H2 => r x xs H2 Q
variable {o e : Expr} {es : List Expr} {to : TE} {t : TA} {name : Str} {apos cpos : Pos} {T id : String} {r : V → List V → Hp → VK → Prop}
theorem pe_bm (pa : PlainAttrs T) (slot : Slot T name id) (hty : typeOf (.builtin id) = pure (.type "method_descriptor")) (hm : MtR X id r) (ho : PE X o to) (ha : PA X (e :: es) t)
    (hbase : attributeBase o name X.env (eval o X.env) = eval o X.env := by rfl)
    (hfew : ((backTo cpos (starEach (e :: es) X.env)).all (fun x => !x.1) && (backToKw cpos (keywordEach [] X.env)).all (fun x => x.1.isSome)
      && decide ((e :: es).length + ([] : List Keyword).length + (if ([] : List Keyword).isEmpty then 0 else 1) < 30)) = true := by rfl)
    (hline : (apos.endLine == cpos.line) = true := by rfl) (hs : starEach (e :: es) X.env = (false, eval e X.env) :: starEach es X.env := by rfl) (hplain : (backTo cpos (starEach es X.env)).any (·.1) = false := by rfl) :
    PE X (.Call (.Attribute o name apos) (e :: es) [] cpos) (tBM X.K T r to t) := by
  intro pins s σ H Q I h
  refine wpAny_Call_method_late hbase hfew hline rfl (thn (ho pins s σ H _ I h) fun v s1 ⟨x, H1, I1, r1, ty, q1⟩ => ?_)
  obtain ⟨h1, h2⟩ := tyV_is I1 r1 ty
  refine ⟨T, id, pa, slot, hty, h1, h2, ?_⟩
  have hA := ha cpos pins s1 σ H1 _ I1 q1
  rw [hs] at hA ⊢
  refine Calls.callWith_builtin (by show (false || (backTo cpos (starEach es X.env)).any (·.1)) = false; rw [hplain] <;> rfl) (Calls.evalArgs_plain ?_)
  exact thn hA fun us s2 ⟨vs, H2, I2, r2, q2⟩ => hm pins s2 σ H2 x vs v us Q I2 r1 r2 q2
end
end L2
namespace L2
open PySem PySem.Spec PyProof.Rows
noncomputable def MtM (X : Cx) (id : String) (r : V → List V → Hp → VK → Prop) : Prop :=
  ∀ (pins : List (Addr × Obj)) (s : Shared) (σ : St) (H : Hp) (x : V) (xs : List V) (v : Value) (us : List Value) (Q : VK), Inv X pins σ H s → RelV x v → Vals xs us → r x xs H Q →
    wpAny (model X.prog X.w) X.A (call (.builtin id) (v :: us)) (EP X pins σ Q) X.xe s
theorem Vals.one : ∀ {x : V} {us : List Value}, Vals [x] us → ∃ u, us = [u] ∧ RelV x u
  | _, _, .cons r .nil => ⟨_, rfl, r⟩
theorem Vals.two : ∀ {x y : V} {us : List Value}, Vals [x, y] us → ∃ u v, us = [u, v] ∧ RelV x u ∧ RelV y v
  | _, _, _, .cons r (.cons q .nil) => ⟨_, _, rfl, r, q⟩
theorem Vals.zero : ∀ {us : List Value}, Vals [] us → us = []
  | _, .nil => rfl
theorem Vals.dropLast {xs : List V} {us : List Value} (h : Vals xs us) : Vals xs.dropLast us.dropLast := by
  induction h with
  | nil => exact .nil
  | cons r t ih =>
    cases t with
    | nil => exact .nil
    | cons q t' => exact .cons r ih
theorem Vals.eraseIdx : ∀ {xs : List V} {us : List Value} (i : Nat), Vals xs us → Vals (xs.eraseIdx i) (us.eraseIdx i)
  | _, _, _, .nil => .nil
  | _, _, 0, .cons _ t => t
  | _, _, i + 1, .cons r t => .cons r (Vals.eraseIdx i t)
theorem Vals.rep {xs : List V} {us : List Value} (h : Vals xs us) : ∀ k : Nat, Vals (List.replicate k xs).flatten (List.replicate k us).flatten
  | 0 => .nil
  | k + 1 => by
    rw [List.replicate_succ, List.replicate_succ, List.flatten_cons, List.flatten_cons]
    exact Vals.append h (Vals.rep h k)
theorem len_erase {α : Type} : ∀ (l : List α) (i : Nat), (l.eraseIdx i).length ≤ l.length
  | [], _ => Nat.le_refl _
  | _ :: _, 0 => Nat.le_succ _
  | _ :: r, i + 1 => Nat.succ_le_succ (len_erase r i)
theorem foldl_rep (its : List Value) : ∀ (k : Nat) (acc : List Value),
    List.foldl (fun x1 x2 => x1 ++ x2) acc.toArray (List.replicate k its.toArray) = (acc ++ (List.replicate k its).flatten).toArray
  | 0, acc => by simp
  | k + 1, acc => by
    have e : acc.toArray ++ its.toArray = (acc ++ its).toArray := by simp
    have e2 : (acc ++ its) ++ (List.replicate k its).flatten = acc ++ (List.replicate (k + 1) its).flatten := by
      rw [List.replicate_succ, List.flatten_cons, List.append_assoc]
    rw [← e2, ← foldl_rep its k (acc ++ its), ← e, List.replicate_succ, List.foldl_cons]
section
variable {X : Cx} {pins : List (Addr × Obj)} {σ : St} {H : Hp} {s : Shared} {l b : Addr} {xs ys zs : List V}
theorem Inv.lset {its its' : List Value} {n : Nat} {f : Array Value → Array Value} {t' : Nat} (I : Inv X pins σ H s) (hH : H l = some (.lst xs))
    (e : s.heap.get? l = some { cls := .type "list", data := .seq its.toArray n }) (hf : f its.toArray = its'.toArray) (hv : Vals ys its') (hz : ys.length ≤ sizeLine) :
    Inv X pins σ (upd H l (.lst ys)) { s with heap := s.heap.update l (Obj.mapSeq f), toks := t' } := by
  have q := PySem.IsL.update e f
  rw [hf] at q
  refine I.write (x := l) (e := l) (by rw [hH]; exact trivial) (.inl rfl) (fun b' u hb hu => (Heap.get?_update_other s.heap (Obj.mapSeq f) (Ne.symm hb)).trans hu) ⟨_, q⟩ ?_
  exact ⟨hz, its', _, hv, q⟩
theorem Inv.lnew {its : List Value} {t' : Nat} (I : Inv X pins σ H s) (hv : Vals ys its) (hz : ys.length ≤ sizeLine) :
    Inv X pins σ (upd H s.heap.objs.size (.lst ys)) { s with heap := s.heap.push { cls := .type "list", data := .seq its.toArray }, toks := t' } :=
  I.laid (fun _ _ q => Heap.get?_push_of_some _ q) (Nat.le_refl _) ⟨hz, its, 0, hv, Heap.get?_push_size _ rfl⟩
theorem Inv.fresh (I : Inv X pins σ H s) : H s.heap.objs.size = none := I.hok.fresh (Nat.le_refl _)
theorem Inv.lstM (I : Inv X pins σ H s) (hH : H l = some (.lst xs)) : xs.length ≤ sizeLine ∧ ∃ (its : List Value) (n : Nat), Vals xs its ∧ xs.length = its.length ∧ s.heap.get? l = some { cls := .type "list", data := .seq its.toArray n } := by
  obtain ⟨z, its, n, r, e⟩ := I.hok l _ hH
  exact ⟨z, its, n, r, r.length, e⟩
theorem notLongL {n : Nat} (h : n ≤ sizeLine) : Builtin.List.listTooLong n = false := by
  unfold Builtin.List.listTooLong
  exact decide_eq_false (by omega)
end
section
variable {X : Cx}
noncomputable def rAppend : V → List V → Hp → VK → Prop := fun x vs H Q => ∃ l xs y, x = .ref l ∧ vs = [y] ∧ H l = some (.lst xs) ∧ xs.length < sizeLine ∧ Q .non (upd H l (.lst (xs ++ [y])))
theorem mt_append : MtM X "list.append" rAppend := by
  intro pins s σ H x vs v us Q I rx rv h
  obtain ⟨l, xs, y, rfl, rfl, hH, hz, q⟩ := h
  cases rx
  obtain ⟨u, rfl, ru⟩ := rv.one
  obtain ⟨z, its, n, r, hl, e⟩ := I.lstM hH
  refine call_meets F.slot_list_append ⟨_, e, rfl⟩ F.entry_list_append (F.args_list_append_2 _ _) (PySem.list_append l its.toArray n u (by rw [List.size_toArray]; omega)) ⟨e, ?_⟩
  refine ⟨.non, _, I.lset (its' := its ++ [u]) hH e (by simp) (r.append (.cons ru .nil)) ?_, rfl, q⟩
  rw [List.length_append, List.length_singleton]
  omega
noncomputable def rExtend : V → List V → Hp → VK → Prop := fun x vs H Q => ∃ l b xs zs, x = .ref l ∧ vs = [.ref b] ∧ H l = some (.lst xs) ∧ H b = some (.lst zs) ∧ xs.length + zs.length ≤ sizeLine ∧ Q .non (upd H l (.lst (xs ++ zs)))
theorem mt_extend : MtM X "list.extend" rExtend := by
  intro pins s σ H x vs v us Q I rx rv h
  obtain ⟨l, b, xs, zs, rfl, rfl, hH, hB, hz, q⟩ := h
  cases rx
  obtain ⟨u, rfl, ru⟩ := rv.one
  cases ru
  obtain ⟨z, its, n, r, hl, e⟩ := I.lstM hH
  obtain ⟨z2, its2, n2, r2, hl2, e2⟩ := I.lstM hB
  have hsz : its.toArray.size + its2.toArray.size ≤ sizeLine := by rw [List.size_toArray, List.size_toArray]; omega
  have hlong : ¬ (!its.toArray.isEmpty && Builtin.List.listTooLong (its.toArray.size + its2.toArray.size)) = true := by
    rw [notLongL hsz, Bool.and_false]
    exact Bool.false_ne_true
  refine call_meets F.slot_list_extend ⟨_, e, rfl⟩ F.entry_list_extend (F.args_list_extend_2 _ _)
    (AutoSeq1.list_extend_list_list_0 l its.toArray n b its2.toArray n2 hlong (by rw [List.size_toArray]; omega) (by omega)) ⟨e, e2, ?_⟩
  refine ⟨.non, _, I.lset (its' := its ++ its2) hH e (by simp) (r.append r2) ?_, rfl, q⟩
  rw [List.length_append]
  omega
noncomputable def rPopAt : V → List V → Hp → VK → Prop := fun x vs H Q => ∃ l xs i k y, x = .ref l ∧ vs = [.int i] ∧ H l = some (.lst xs) ∧ -(2 ^ 63) ≤ i ∧ i < 2 ^ 63 ∧ seqIndex? i xs.length = some k ∧ xs[k]? = some y ∧ Q y (upd H l (.lst (xs.eraseIdx k)))
theorem mt_popAt : MtM X "list.pop" rPopAt := by
  intro pins s σ H x vs v us Q I rx rv h
  obtain ⟨l, xs, i, k, y, rfl, rfl, hH, h1, h2, hk, hy, q⟩ := h
  cases rx
  obtain ⟨u, rfl, ru⟩ := rv.one
  obtain ⟨t, rfl⟩ := ru
  obtain ⟨z, its, n, r, hl, e⟩ := I.lstM hH
  obtain ⟨w, hw, rw'⟩ := r.get hy
  refine call_meets F.slot_list_pop ⟨_, e, rfl⟩ F.entry_list_pop (F.args_list_pop_2 _ _)
    (MeetsSeq.list_pop_at l its.toArray n i t k w (fitsIndex_both h1 h2) (by rw [List.size_toArray, ← hl]; exact hk) (by rw [← Array.getElem?_toList]; exact hw) (by rw [List.size_toArray]; omega)) ⟨e, ?_⟩
  refine ⟨y, _, I.lset (its' := its.eraseIdx k) hH e ?_ (r.eraseIdx k) ?_, rw', q⟩
  · show its.toArray.eraseIdxIfInBounds k = (its.eraseIdx k).toArray
    rw [List.eraseIdxIfInBounds_toArray]
  · have := len_erase xs k
    omega
noncomputable def rCat : R2 := fun x y H Q => ∃ l b xs zs, x = .ref l ∧ y = .ref b ∧ H l = some (.lst xs) ∧ H b = some (.lst zs) ∧ xs.length + zs.length ≤ sizeLine ∧ ∀ p, H p = none → Q (.ref p) (upd H p (.lst (xs ++ zs)))
theorem op_cat : OpR X (binaryOp .Add) rCat := by
  intro pins s σ H x y v u Q I rx ry h
  obtain ⟨l, b, xs, zs, rfl, rfl, hH, hB, hz, q⟩ := h
  cases rx
  cases ry
  obtain ⟨z, its, n, r, hl, e⟩ := I.lstM hH
  obtain ⟨z2, its2, n2, r2, hl2, e2⟩ := I.lstM hB
  refine PySem.P.add_list e e2 ?_ (by rw [List.size_toArray, List.size_toArray]; omega)
  have ea : its.toArray ++ its2.toArray = (its ++ its2).toArray := by simp
  rw [ea]
  exact ⟨.ref _, _, I.lnew (t' := s.toks) (r.append r2) (by rw [List.length_append]; omega), rfl, q _ I.fresh⟩
noncomputable def rRep : R2 := fun x y H Q => ∃ l k xs, x = .ref l ∧ y = .int k ∧ H l = some (.lst xs) ∧ -(2 ^ 63) ≤ k ∧ k < 2 ^ 63 ∧ xs.length * k.toNat ≤ sizeLine ∧
  ∀ p, H p = none → Q (.ref p) (upd H p (.lst (List.replicate k.toNat xs).flatten))
theorem len_rep {α : Type} (xs : List α) (k : Nat) : (List.replicate k xs).flatten.length = k * xs.length := by
  induction k with
  | zero => simp
  | succ k ih => rw [List.replicate_succ, List.flatten_cons, List.length_append, ih, Nat.succ_mul, Nat.add_comm]
theorem op_rep : OpR X (binaryOp .Mult) rRep := by
  intro pins s σ H x y v u Q I rx ry h
  obtain ⟨l, k, xs, rfl, rfl, hH, h1, h2, hz, q⟩ := h
  cases rx
  obtain ⟨t, rfl⟩ := ry
  obtain ⟨z, its, n, r, hl, e⟩ := I.lstM hH
  have hlen : its.toArray.size * k.toNat ≤ sizeLine := by rw [List.size_toArray, ← hl]; exact hz
  have hcap : ¬ its.toArray.size * k.toNat > (2 ^ 63 - 1) / 8 := by
    have : (sizeLine : Nat) ≤ (2 ^ 63 - 1) / 8 := by decide
    omega
  have hfit : ¬ (!Builtin.List.listFitsIndex k) = true := by
    rw [fitsIndex_both h1 h2]
    exact Bool.false_ne_true
  have hlong : ¬ Builtin.List.listTooLong (its.toArray.size * k.toNat) = true := by
    rw [notLongL hlen]
    exact Bool.false_ne_true
  have hnew : List.foldl (fun x1 x2 => x1 ++ x2) #[] (List.replicate (if its.toArray.isEmpty = true then 0 else k.toNat) its.toArray) = (List.replicate k.toNat its).flatten.toArray := by
    have f0 : ∀ m : Nat, List.foldl (fun x1 x2 => x1 ++ x2) #[] (List.replicate m its.toArray) = (List.replicate m its).flatten.toArray := fun m => by
      have := foldl_rep its m []
      rw [List.nil_append] at this
      exact this
    rw [f0]
    cases its with
    | nil => simp
    | cons a r' => rw [if_neg (by simp)]
  refine wpAny_binaryOp_repeat_ref (T := "list") (U := "int") (by decide) ⟨_, e, rfl⟩ (fun s' => typeIs_int s' k t) noFill_list_mul F.fills_int_mul F.slot_int_rmul repeat_list F.slot_int_index.lookup
    (call_meets F.slot_int_rmul (typeIs_int s k t) F.entry_int_rmul (F.args_int_rmul_2 _ _) (int___rmul___int_list k t l its.toArray n)
      ⟨e, rfl, ⟨_, e, rfl⟩, call_meets F.slot_list_mul ⟨_, e, rfl⟩ F.entry_list_mul (F.args_list_mul_2 _ _) (AutoListH.list___mul___list_int_3 l its.toArray n k t hfit hcap hlong) ⟨e, ?_⟩⟩)
  rw [hnew]
  exact ⟨.ref _, _, I.lnew (t' := s.toks) (r.rep k.toNat) (by rw [len_rep, Nat.mul_comm]; exact hz), rfl, q _ I.fresh⟩
end
section
variable {prog : Program} {w : World} {A : Around} {E : Value → Shared → Prop} {s : Shared}
end
section
variable {X : Cx}
end
end L2
namespace L2
open PySem PySem.Spec PyProof.Rows
section
variable {κ : Type} [DecidableEq κ]
noncomputable def valV (kvs : List (κ × V)) (k : κ) : Option V := (kvs.find? fun kv => decide (kv.1 = k)).map (·.2)
noncomputable def putK (kvs : List (κ × V)) (k : κ) (v : V) : List (κ × V) :=
  if (kvs.any fun kv => decide (kv.1 = k)) = true then kvs.map (fun kv => if kv.1 = k then (kv.1, v) else kv) else kvs ++ [(k, v)]
noncomputable def dropK (kvs : List (κ × V)) (k : κ) : List (κ × V) := kvs.filter fun kv => decide (kv.1 ≠ k)
theorem valV_pos {p : κ × V} {r : List (κ × V)} {k : κ} (e : p.1 = k) : valV (p :: r) k = some p.2 := by simp [valV, List.find?_cons, e]
theorem valV_neg {p : κ × V} {r : List (κ × V)} {k : κ} (e : ¬ p.1 = k) : valV (p :: r) k = valV r k := by simp [valV, List.find?_cons, e]
theorem valV_any (k : κ) : ∀ kvs : List (κ × V), (kvs.any fun kv => decide (kv.1 = k)) = (valV kvs k).isSome
  | [] => rfl
  | p :: r => by
    rw [List.any_cons]
    by_cases e : p.1 = k
    · simp only [valV_pos e, decide_eq_true e, Bool.true_or, Option.isSome_some]
    · rw [valV_neg e, decide_eq_false e, Bool.false_or]; exact valV_any k r
theorem length_putK (kvs : List (κ × V)) (k : κ) (v : V) : (putK kvs k v).length ≤ kvs.length + 1 := by
  unfold putK
  split
  · rw [List.length_map]; omega
  · rw [List.length_append, List.length_cons, List.length_nil]; omega
theorem RelO.isSome_eq {o : Option V} {u : Option Value} (r : RelO o u) : o.isSome = u.isSome := by
  cases o with
  | none => cases u with
    | none => rfl
    | some _ => exact (show False from r).elim
  | some _ => cases u with
    | none => exact (show False from r).elim
    | some _ => rfl
theorem RelO.getD {o : Option V} {u : Option Value} {d : V} {d' : Value} (r : RelO o u) (rd : RelV d d') : RelV (o.getD d) (u.getD d') := by
  cases o with
  | none => cases u with
    | none => exact rd
    | some _ => exact (show False from r).elim
  | some _ => cases u with
    | none => exact (show False from r).elim
    | some _ => exact r
theorem KV.val {kvs : List (κ × V)} {vs : List (κ × Value)} (r : KV kvs vs) (k : κ) : RelO (valV kvs k) (valueAt vs k) := by
  unfold KV at r
  induction r with
  | nil => exact True.intro
  | @cons p q ps qs h t ih =>
    obtain ⟨h1, h2⟩ := h
    by_cases e : p.1 = k
    · have e' : q.1 = k := h1.symm.trans e
      have b : valueAt (q :: qs) k = some q.2 := by simp [valueAt, List.find?_cons, e']
      rw [valV_pos e, b]; exact h2
    · have e' : ¬ q.1 = k := fun z => e (h1.trans z)
      have b : valueAt (q :: qs) k = valueAt qs k := by simp [valueAt, List.find?_cons, e']
      rw [valV_neg e, b]; exact ih
theorem KV.any {kvs : List (κ × V)} {vs : List (κ × Value)} (r : KV kvs vs) (k : κ) : (kvs.any fun kv => decide (kv.1 = k)) = vs.any fun kv => decide (kv.1 = k) := by
  unfold KV at r
  induction r with
  | nil => rfl
  | cons h t ih => rw [List.any_cons, List.any_cons, ih, h.1]
theorem KV.repl {kvs : List (κ × V)} {vs : List (κ × Value)} (r : KV kvs vs) (k : κ) {y : V} {u : Value} (ry : RelV y u) :
    KV (kvs.map fun kv => if kv.1 = k then (kv.1, y) else kv) (vs.map fun kv => if kv.1 = k then (kv.1, u) else kv) := by
  unfold KV at r ⊢
  induction r with
  | nil => exact .nil
  | @cons p q ps qs h t ih =>
    rw [List.map_cons, List.map_cons]
    refine .cons ?_ ih
    obtain ⟨h1, h2⟩ := h
    by_cases e : p.1 = k
    · rw [if_pos e, if_pos (h1.symm.trans e)]; exact ⟨h1, ry⟩
    · rw [if_neg e, if_neg (fun z => e (h1.trans z))]; exact ⟨h1, h2⟩
theorem KV.put {kvs : List (κ × V)} {vs : List (κ × Value)} (r : KV kvs vs) (k : κ) {y : V} {u : Value} (ry : RelV y u) : KV (putK kvs k y) (stored vs k u) := by
  unfold putK stored
  rw [r.any k]
  by_cases e : (vs.any fun kv => decide (kv.1 = k)) = true
  · rw [if_pos e, if_pos e]; exact r.repl k ry
  · rw [if_neg e, if_neg e]; exact Paired.snoc r ⟨rfl, ry⟩
theorem KV.drop {kvs : List (κ × V)} {vs : List (κ × Value)} (r : KV kvs vs) (k : κ) : KV (dropK kvs k) (without vs k) := by
  unfold KV at r ⊢
  unfold dropK without
  induction r with
  | nil => exact .nil
  | @cons p q ps qs h t ih =>
    obtain ⟨h1, h2⟩ := h
    rw [List.filter_cons, List.filter_cons]
    by_cases e : p.1 = k
    · have a : ¬ decide (p.1 ≠ k) = true := by simp [e]
      have b : ¬ decide (q.1 ≠ k) = true := by simp [h1.symm.trans e]
      rw [if_neg a, if_neg b]; exact ih
    · have e' : ¬ q.1 = k := fun z => e (h1.trans z)
      have a : decide (p.1 ≠ k) = true := by simp [e]
      have b : decide (q.1 ≠ k) = true := by simp [e']
      rw [if_pos a, if_pos b]; exact .cons ⟨h1, h2⟩ ih
theorem KV.keys {kvs : List (κ × V)} {vs : List (κ × Value)} (r : KV kvs vs) : kvs.map (·.1) = vs.map (·.1) := by
  unfold KV at r
  induction r with
  | nil => rfl
  | cons h t ih => rw [List.map_cons, List.map_cons, ih, h.1]
theorem KV.length {kvs : List (κ × V)} {vs : List (κ × Value)} (r : KV kvs vs) : kvs.length = vs.length := Paired.length r
theorem dropK_le (kvs : List (κ × V)) (k : κ) : (dropK kvs k).length ≤ kvs.length := List.length_filter_le _ _
end
theorem kV_is {P : Program} {w : World} {k : Key} {u : Value} (r : RelV (kV k) u) : (mixKind P w).is k u = true := by
  cases k with
  | inl i => obtain ⟨t, e⟩ := (show ∃ t, u = Value.int i t from r); subst e; exact mixKind_int P w i t
  | inr x => obtain ⟨t, e⟩ := (show ∃ t, u = Value.str x t from r); subst e; exact mixKind_str P w x t
theorem items_are {P : Program} {w : World} : ∀ {ks : List Key} {us : List Value}, Vals (ks.map kV) us → ItemsAre (mixKind P w) ks us
  | [], _, r => by rw [List.map_nil] at r; cases r; exact .nil
  | k :: ks, _, r => by
    rw [List.map_cons] at r
    cases r with
    | cons h t => exact .cons (kV_is h) (items_are t)
noncomputable abbrev KT (H : Hp) : List (List Key × V) → List (List Key × Addr × Value) → Prop := Paired fun p q => p.1 = q.1 ∧ H q.2.1 = some (.tup (p.1.map kV)) ∧ RelV p.2 q.2.2
theorem KT.val {H : Hp} {kvs : List (List Key × V)} {xs : List (List Key × Addr × Value)} (r : KT H kvs xs) (k : List Key) : RelO (valV kvs k) ((atKey xs k).map (·.2)) := by
  induction r with
  | nil => exact True.intro
  | @cons p q ps qs h t ih =>
    obtain ⟨h1, _, h2⟩ := h
    by_cases e : p.1 = k
    · have e' : q.1 = k := h1.symm.trans e
      have b : atKey (q :: qs) k = some q.2 := by simp [atKey, List.find?_cons, e']
      rw [valV_pos e, b]; exact h2
    · have e' : ¬ q.1 = k := fun z => e (h1.trans z)
      have b : atKey (q :: qs) k = atKey qs k := by simp [atKey, List.find?_cons, e']
      rw [valV_neg e, b]; exact ih
theorem KT.repl {H : Hp} {kvs : List (List Key × V)} {xs : List (List Key × Addr × Value)} (r : KT H kvs xs) (k : List Key) {y : V} {u : Value} (ry : RelV y u) :
    KT H (kvs.map fun kv => if kv.1 = k then (kv.1, y) else kv) (xs.map (putAt k u)) := by
  induction r with
  | nil => exact .nil
  | @cons p q ps qs h t ih =>
    rw [List.map_cons, List.map_cons]
    refine .cons ?_ ih
    obtain ⟨h1, h2, h3⟩ := h
    unfold putAt
    by_cases e : p.1 = k
    · rw [if_pos e, if_pos (h1.symm.trans e)]; exact ⟨h1, h2, ry⟩
    · rw [if_neg e, if_neg (fun z => e (h1.trans z))]; exact ⟨h1, h2, h3⟩
theorem KT.put {H : Hp} {kvs : List (List Key × V)} {xs : List (List Key × Addr × Value)} (r : KT H kvs xs) (k : List Key) {b : Addr} {y : V} {u : Value} (hb : H b = some (.tup (k.map kV))) (ry : RelV y u) :
    KT H (putK kvs k y) (storedH xs k b u) := by
  have e : (kvs.any fun kv => decide (kv.1 = k)) = (atKey xs k).isSome := by
    rw [valV_any, (r.val k).isSome_eq, Option.isSome_map]
  unfold putK storedH
  rw [e]
  by_cases q : (atKey xs k).isSome = true
  · rw [if_pos q, if_pos q]; exact r.repl k ry
  · rw [if_neg q, if_neg q]; exact Paired.snoc r ⟨rfl, hb, ry⟩
theorem KT.keeps {H H' : Hp} {kvs : List (List Key × V)} {xs : List (List Key × Addr × Value)} (r : KT H kvs xs) (ht : ∀ b ys, H b = some (.tup ys) → H' b = some (.tup ys)) : KT H' kvs xs :=
  Paired.mapP r fun _ _ z => ⟨z.1, ht _ _ z.2.1, z.2.2⟩
section
variable {P : Program} {w : World} {H : Hp} {h : Heap} {a : Addr}
theorem rd_of {u : HO} (ok : HOk P w H h) (e : Rd H a u) : ObjOk P w H h a u := e.ok ok
theorem dk_rd {kvs : List (Key × V)} (ok : HOk P w H h) (e : Rd H a (.dK kvs)) : kvs.length ≤ sizeLine ∧ (a == sysModules) = false ∧ ∃ vs, KV kvs vs ∧ h.DictOf (mixKind P w) a vs :=
  show ObjOk P w H h a (.dK kvs) from rd_of ok e
theorem dk_of {kvs : List (Key × V)} (ok : HOk P w H h) (e : H a = some (.dK kvs)) : kvs.length ≤ sizeLine ∧ (a == sysModules) = false ∧ ∃ vs, KV kvs vs ∧ h.DictOf (mixKind P w) a vs := dk_rd ok (.inl e)
theorem key_of {ks : List Key} (ok : HOk P w H h) (e : H a = some (.tup (ks.map kV))) : (tupleKind (mixKind P w)).is h ks a := by
  obtain ⟨_, its, r, o, h1, h2, n, h3⟩ := (show ObjOk P w H h a (.tup (ks.map kV)) from ok a _ e)
  exact ⟨o, its.toArray, n, h1, h2, h3, by simpa using items_are r⟩
theorem dt_rd {kvs : List (List Key × V)} (ok : HOk P w H h) (e : Rd H a (.dT kvs)) : kvs.length ≤ sizeLine ∧ (a == sysModules) = false ∧
    ∃ xs, KT H kvs xs ∧ h.DictOfH (tupleKind (mixKind P w)) a xs := by
  obtain ⟨z, y, xs, r, o, es, ep, h1, h2, h3, h4, h5⟩ := (show ObjOk P w H h a (.dT kvs) from rd_of ok e)
  refine ⟨z, y, xs, r, o, es, ep, h1, h2, h3, h4, fun x hx => ?_, h5⟩
  have all : ∀ {l : List (List Key × V)} {m : List (List Key × Addr × Value)}, KT H l m → ∀ x ∈ m, (tupleKind (mixKind P w)).is h x.1 x.2.1 := by
    intro l m q
    induction q with
    | nil => intro x hx; exact nomatch hx
    | @cons p q ps qs hq t ih =>
      intro x hx
      rcases List.mem_cons.mp hx with e | hx
      · subst e
        exact key_of ok (by rw [← hq.1]; exact hq.2.1)
      · exact ih x hx
  exact all r x hx
theorem dt_of {kvs : List (List Key × V)} (ok : HOk P w H h) (e : H a = some (.dT kvs)) : kvs.length ≤ sizeLine ∧ (a == sysModules) = false ∧
    ∃ xs, KT H kvs xs ∧ h.DictOfH (tupleKind (mixKind P w)) a xs := dt_rd ok (.inl e)
end
noncomputable def DGet (H : Hp) (a : Addr) (y : V) (r : Option V) : Prop :=
  (∃ kvs k, Rd H a (.dK kvs) ∧ y = kV k ∧ r = valV kvs k) ∨ ∃ kvs k b, Rd H a (.dT kvs) ∧ y = .ref b ∧ H b = some (.tup (k.map kV)) ∧ r = valV kvs k
noncomputable def DPut (H : Hp) (a : Addr) (y v : V) (H' : Hp) : Prop :=
  (∃ kvs k, H a = some (.dK kvs) ∧ y = kV k ∧ kvs.length < sizeLine ∧ H' = upd H a (.dK (putK kvs k v))) ∨
  ∃ kvs k b, H a = some (.dT kvs) ∧ y = .ref b ∧ H b = some (.tup (k.map kV)) ∧ kvs.length < sizeLine ∧ H' = upd H a (.dT (putK kvs k v))
theorem DGet.k {H : Hp} {a : Addr} {kvs : List (Key × V)} {k : Key} (e : H a = some (.dK kvs)) : DGet H a (kV k) (valV kvs k) := .inl ⟨kvs, k, .inl e, rfl, rfl⟩
theorem DGet.t {H : Hp} {a b : Addr} {kvs : List (List Key × V)} {k : List Key} (e : H a = some (.dT kvs)) (eb : H b = some (.tup (k.map kV))) : DGet H a (.ref b) (valV kvs k) := .inr ⟨kvs, k, b, .inl e, rfl, eb, rfl⟩
theorem DPut.k {H : Hp} {a : Addr} {kvs : List (Key × V)} {k : Key} {v : V} (e : H a = some (.dK kvs)) (hl : kvs.length < sizeLine) : DPut H a (kV k) v (upd H a (.dK (putK kvs k v))) := .inl ⟨kvs, k, e, rfl, hl, rfl⟩
theorem DPut.t {H : Hp} {a b : Addr} {kvs : List (List Key × V)} {k : List Key} {v : V} (e : H a = some (.dT kvs)) (eb : H b = some (.tup (k.map kV))) (hl : kvs.length < sizeLine) :
    DPut H a (.ref b) v (upd H a (.dT (putK kvs k v))) := .inr ⟨kvs, k, b, e, rfl, eb, hl, rfl⟩
section
variable {X : Cx} {pins : List (Addr × Obj)} {σ : St} {H : Hp} {s : Shared} {a : Addr} {y v : V} {u r : Value} {o : Option V} {A : Around} {E : Value → Shared → Prop}
theorem d_getItem {Q : Value → Shared → Prop} (hu : A.units + 1 < cLine) (I : Inv X pins σ H s) (g : DGet H a y (some v)) (ry : RelV y u) (h : ∀ w' s', Inv X pins σ H s' → RelV v w' → Q w' s') :
    wpAny (model X.prog X.w) A (getItem (.ref a) u) Q E s := by
  rcases g with ⟨kvs, k, e, ey, l⟩ | ⟨kvs, k, b, e, ey, eb, l⟩
  · subst ey
    obtain ⟨z, hd, vs, rel, dd⟩ := dk_rd I.hok e
    obtain ⟨w', hw, rw'⟩ := RelO.some_of (v := v) (o := valueAt vs k) (by rw [l]; exact rel.val k)
    exact wpAny_getItem_of (kV_is ry) dd.mapOf hw (h w' _ (I.tok _) rw')
  · subst ey
    cases (show u = Value.ref b from ry)
    obtain ⟨z, hd, xs, rel, dd⟩ := dt_rd I.hok e
    obtain ⟨w', hw, rw'⟩ := RelO.some_of (v := v) (o := (atKey xs k).map (·.2)) (by rw [l]; exact rel.val k)
    obtain ⟨p, hp, hp2⟩ := Option.map_eq_some_iff.mp hw
    refine wpAny_getItem_heap (tupleKind_room_in1 hu) (key_of I.hok eb) dd hp ?_
    rw [hp2]
    exact h w' _ (I.tok _) rw'
theorem d_in {Q : Value → Shared → Prop} (hu : A.units + 1 < cLine) (I : Inv X pins σ H s) (g : DGet H a y o) (ry : RelV y u) (h : ∀ s', Inv X pins σ H s' → Q (.bool o.isSome) s') :
    wpAny (model X.prog X.w) A (compareOp .In u (.ref a)) Q E s := by
  rcases g with ⟨kvs, k, e, ey, l⟩ | ⟨kvs, k, b, e, ey, eb, l⟩
  · subst ey
    obtain ⟨z, hd, vs, rel, dd⟩ := dk_rd I.hok e
    refine wpAny_in_of (kV_is ry) hd dd.mapOf ?_
    rw [← (rel.val k).isSome_eq, ← l]
    exact h _ (I.tok _)
  · subst ey
    cases (show u = Value.ref b from ry)
    obtain ⟨z, hd, xs, rel, dd⟩ := dt_rd I.hok e
    refine wpAny_in_heap (tupleKind_room_in1 hu) (key_of I.hok eb) hd dd ?_
    have q := (rel.val k).isSome_eq
    rw [Option.isSome_map] at q
    rw [← q, ← l]
    exact h _ (I.tok _)
theorem d_notIn {Q : Value → Shared → Prop} (hu : A.units + 1 < cLine) (I : Inv X pins σ H s) (g : DGet H a y o) (ry : RelV y u) (h : ∀ s', Inv X pins σ H s' → Q (.bool (!o.isSome)) s') :
    wpAny (model X.prog X.w) A (compareOp .NotIn u (.ref a)) Q E s := by
  rcases g with ⟨kvs, k, e, ey, l⟩ | ⟨kvs, k, b, e, ey, eb, l⟩
  · subst ey
    obtain ⟨z, hd, vs, rel, dd⟩ := dk_rd I.hok e
    refine wpAny_notIn_of (kV_is ry) hd dd.mapOf ?_
    rw [← (rel.val k).isSome_eq, ← l]
    exact h _ (I.tok _)
  · subst ey
    cases (show u = Value.ref b from ry)
    obtain ⟨z, hd, xs, rel, dd⟩ := dt_rd I.hok e
    refine wpAny_notIn_heap (tupleKind_room_in1 hu) (key_of I.hok eb) hd dd ?_
    have q := (rel.val k).isSome_eq
    rw [Option.isSome_map] at q
    rw [← q, ← l]
    exact h _ (I.tok _)
theorem d_write {h' : Heap} {t' : Nat} {ob : HO} (I : Inv X pins σ H s) (mu : Mut (H a)) (hs : Heap.SameBut a s.heap h') (he : ∃ q, h'.get? a = some q) (new : ObjOk X.prog X.w (upd H a ob) h' a ob) :
    Inv X pins σ (upd H a ob) { s with heap := h', toks := t' } :=
  I.write (x := a) (e := a) mu (.inl rfl) (fun b q hb z => (hs.2 b hb).trans z) he new
theorem dk_new {P : Program} {w : World} {H' : Hp} {h' : Heap} {kvs : List (Key × V)} {vs : List (Key × Value)} (z : kvs.length ≤ sizeLine) (hd : (a == sysModules) = false) (rel : KV kvs vs) (dd : h'.DictOf (mixKind P w) a vs) :
    ObjOk P w H' h' a (.dK kvs) := ⟨z, hd, vs, rel, dd⟩
theorem d_setItem {H' : Hp} {Q : Unit → Shared → Prop} (hu : A.units + 1 < cLine) (I : Inv X pins σ H s) (g : DPut H a y v H') (ry : RelV y u) (rv : RelV v r) (h : ∀ s', Inv X pins σ H' s' → Q () s') :
    wpAny (model X.prog X.w) A (setItem (.ref a) u r) Q E s := by
  rcases g with ⟨kvs, k, e, ey, l, eH⟩ | ⟨kvs, k, b, e, ey, eb, l, eH⟩
  · subst ey eH
    obtain ⟨z, hd, vs, rel, dd⟩ := dk_of I.hok e
    have hz : vs.length ≤ sizeLine := by rw [← rel.length]; exact z
    have hl : (putK kvs k v).length ≤ sizeLine := by have := length_putK kvs k v; omega
    refine wpAny_setItem_pairs (hsz := hz) (kV_is ry) dd fun h' dd' hs => h _ ?_
    have he : ∃ q, h'.get? a = some q := let ⟨q, _, _, hq, _⟩ := dd'; ⟨q, hq⟩
    exact d_write I (by rw [e]; exact True.intro) hs he (dk_new hl hd (rel.put k rv) dd')
  · subst ey eH
    cases (show u = Value.ref b from ry)
    obtain ⟨z, hd, xs, rel, dd⟩ := dt_of I.hok e
    have hz : xs.length ≤ sizeLine := by rw [← Paired.length rel]; exact z
    have hl : (putK kvs k v).length ≤ sizeLine := by have := length_putK kvs k v; omega
    refine wpAny_setItem_heap (hsz := hz) (tupleKind_room_in1 hu) (key_of I.hok eb) dd fun h' dd' hs => h _ ?_
    obtain ⟨q, es, ep, hq, h2, h3, h4, _, h5⟩ := dd'
    refine d_write I (by rw [e]; exact True.intro) hs ⟨q, hq⟩ ⟨hl, hd, _, (rel.put k eb rv).keeps fun c ys ec => ?_, q, es, ep, hq, h2, h3, h4, h5⟩
    rw [upd_ne (ne_of ec e (fun z => nomatch z))]
    exact ec
end
section
variable {X : Cx} {pins : List (Addr × Obj)} {σ : St} {H : Hp} {s : Shared} {a : Addr} {kvs : List (Key × V)} {k : Key} {u : Value} {A : Around} {E : Value → Shared → Prop}
theorem d_len {Q : Value → Shared → Prop} (I : Inv X pins σ H s) (e : Rd H a (.dK kvs)) (h : ∀ t s', Inv X pins σ H s' → Q (.int kvs.length t) s') : wpAny (model X.prog X.w) A (call (.builtin "len") [.ref a]) Q E s := by
  obtain ⟨z, hd, vs, rel, dd⟩ := dk_rd I.hok e
  refine call_len_dict hd dd (by rw [← rel.length]; rw [sizeLine_eq] at z; omega) ?_
  rw [← rel.length]
  exact h _ _ (I.tok _)
end
theorem dict_typeIs {X : Cx} {pins : List (Addr × Obj)} {σ : St} {H : Hp} {s : Shared} {a : Addr} {y : V} {o : Option V} (I : Inv X pins σ H s) (g : DGet H a y o) : s.TypeIs (.ref a) "dict" := by
  rcases g with ⟨kvs, k, e, _, _⟩ | ⟨kvs, k, b, e, _, _, _⟩
  · obtain ⟨_, _, vs, _, dd⟩ := dk_rd I.hok e
    exact dd.typeIs
  · obtain ⟨_, _, xs, _, dd⟩ := dt_rd I.hok e
    exact dd.typeIs
section
variable {X : Cx} {o i e value : Expr} {pos pos' tpos : Pos} {td ty tv : TE}
end
section
variable {X : Cx} {pos : Pos}
end
section
variable {X : Cx} {pins : List (Addr × Obj)} {σ : St} {H : Hp} {s : Shared} {a : Addr} {y d : V} {u r : Value} {o : Option V} {A : Around} {E : Value → Shared → Prop}
end
section
variable {X : Cx} {o e f : Expr} {apos cpos : Pos} {td ty tx : TE}
end
section
variable {X : Cx} {pins : List (Addr × Obj)} {σ : St} {H : Hp} {s : Shared} {a : Addr} {kvs : List (Key × V)} {A : Around} {E : Value → Shared → Prop}
end
section
variable {X : Cx} {pins : List (Addr × Obj)} {σ : St} {H : Hp} {s : Shared} {a : Addr} {y : V} {u : Value} {A : Around} {E : Value → Shared → Prop}
end
end L2
namespace Att
open PySem PySem.W PySem.Calls PyProof.Rows
theorem ints_of_wellAll {P : Params} {h : Heap} : ∀ (ns : List Int) (vs : List Value), WellAll P h vs (ns.map WData.int) → IntsAre vs ns := by
  intro ns
  induction ns with
  | nil =>
    intro vs w
    rw [List.map_nil] at w
    cases w
    exact .nil
  | cons n ns ih =>
    intro vs w
    rw [List.map_cons] at w
    cases w with
    | cons a b =>
      cases a
      exact .cons _ _ (ih _ b)
theorem script_of {l : OpenLaw} {n : Nat} (hn : l.most = some n) {P : Params} {h : Heap} {args : List WData} {vals : List Value}
    (hpre : l.row.toRowW.claim.pre args = true) (hwl : WellAll P h vals args) :
    ∃ a vs ns, vals = [Value.ref a] ∧ args = [WData.list (ns.map WData.int)] ∧ h.get? a = some { cls := .type "list", data := .seq vs.toArray } ∧ IntsAre vs ns ∧ ns.length ≤ n := by
  have hsh : WShape.hasAll [] args [.list .int] = true := (pre_splitW hpre).1
  have hc : l.pre.holds [] { args := args } = true := (pre_splitW hpre).2
  obtain ⟨d, r, rfl, h1, h2⟩ := hasAllW_cons hsh
  obtain rfl := hasAllW_nil h2
  obtain ⟨xs, rfl, h3⟩ := hasW_list h1
  obtain ⟨ns, rfl⟩ := items_int h3
  have hlen : ns.length ≤ n := by
    unfold OpenLaw.pre at hc
    have h4 : (WTm.not (.lt (.lit (.int (n : Int))) (.len (.arg 0)))).holds [] { args := [.list (ns.map .int)] } = true := by
      have h4 := (holds_andW hc).1
      rw [hn] at h4
      exact h4
    have h5 := condW_of h4 (w_not (w_lt w_lit (w_len_list (w_arg rfl))))
    rw [List.length_map] at h5
    refine Nat.le_of_not_lt fun q => ?_
    have q' : (n : Int) < ((ns.length : Nat) : Int) := by omega
    first
      | (rw [decide_eq_true q'] at h5; exact absurd h5 (by decide))
      | (simp at h5; omega)
  cases hwl with
  | cons w1 w2 =>
    cases w2
    cases w1 with
    | list ho hall => exact ⟨_, _, ns, rfl, rfl, ho, ints_of_wellAll ns _ hall, hlen⟩
theorem post_true (l : OpenLaw) (args : List WData) : l.row.toRowW.claim.post args (.bool true) args = true :=
  postW_of (r := l.row.toRowW) (X := (true == true))
    (show WShape.has [] (.bool true) .bool = true by first | rfl | decide | simp [WShape.has, WShape.arms, WShape.armsAll])
    (show (WTm.eq .res (.lit (.bool true))).value [] { args := args, res := some (.bool true), after := args } = some (.bool (true == true)) from w_eq_bool (w_res rfl) w_lit) rfl
theorem attach_call {l : OpenLaw} {n : Nat} {q : Program} {loose : List Str} {XP : (Str → Option Value) → Heap → Prop} {YP : World → Heap → Prop} {d : DefRec}
    (hn : l.most = some n) (hdf : d.params.defaults = [])
    (call : ∀ (w : World) (s₀ s₁ : Shared) (mg mb : Str → Option Value) (fa : Addr) (o : Obj) (pm cd doc : Value) (a : Addr) (vs : List Value) (ns : List Int),
      Ground q loose [] XP w s₀ mg mb s₁.heap → YP w s₁.heap →
      s₁.heap.get? fa = some o → o.data = .func (docDef d.name d.params d.body d.scope pm cd doc) → s₁.heap.CodeRec cd d.name → mg d.name = some (.ref fa) →
      s₁.heap.get? a = some { cls := .type "list", data := .seq vs.toArray } → IntsAre vs ns → ns.length ≤ n → s₁.gens = #[] →
      codeAny (model l.prog w) callerA (.call (.ref fa) ⟨[.ref a], []⟩) (fun r s' => r = .ok (.ret (.bool true)) ∧ OldK s₁.heap s'.heap ∧ s'.os = s₁.os ∧ AllBare s'.gens) s₁) :
    WalkO q loose XP YP l.row.toRowW d [] (fun f vs => PySem.call f vs) := by
  intro w s₀ s₁ mg mb G Y fa o pm cd doc dV kV ho hd hcd hD hmg hg args vals as hpre hlay hrd hwl hlo
  obtain rfl : dV = .none := Dflts.none hD hdf
  obtain rfl : kV = .none := Dflts.noKw hD
  obtain ⟨a, vs, ns, rfl, rfl, hobj, hints, hlen⟩ := script_of hn hpre hwl
  refine enter_call (codeAny_mono (call w s₀ s₁ mg mb fa o pm cd doc a vs ns G Y ho (fd_plain hd) hcd hmg hobj hints hlen hg) fun r s' hq => ?_)
  obtain ⟨rfl, h2, h3, h4⟩ := hq
  exact ⟨.inl ⟨.bool true, .bool true, [], rfl, fun _ => rfl, .bool true, post_true l _, fun _ => ⟨List.Pairwise.nil, fun _ hm => (nomatch hm)⟩⟩, h2, h3, h4⟩
section
variable {prog : Program} {w : World} {A : Around} {E : Value → Shared → Prop} {s : Shared} {K : Frag}
end
end Att
namespace L2
open PySem PySem.Spec PyProof.Rows
theorem vals_ints : ∀ {vs : List Value} {ns : List Int}, IntsAre vs ns → Vals (ns.map V.int) vs
  | _, _, .nil => .nil
  | _, _, .cons n t h => .cons ⟨t, rfl⟩ (vals_ints h)
noncomputable def Only (H : Hp) : Prop := ∀ b, H b = none ∨ ∃ o xs, H b = some (.frz o (.lst xs))
theorem law_call {P : Program} {w : World} {K : PySem.W.Frag} {mg mb : Str → Option Value} {CX : CXT} {k : Nat} {fa a : Addr} {fd : FuncData} {x : Str} {sp : Sp} {s₁ : Shared} {vs : List Value} {ns : List Int}
    (KX : K.In s₁.heap) (hns : s₁.heap.Ns mainGlobals mg) (hb : s₁.heap.Ns builtinsNs mb) (hbb : ∀ x : Str, x ≠ "__name__" → mb x = bootBuiltins x) (hlim : s₁.heap.NoLimit) (hg : s₁.gens = #[])
    (ha : s₁.heap.get? a = some { cls := .type "list", data := .seq vs.toArray }) (hi : IntsAre vs ns) (hl : ns.length ≤ sizeLine) (hr : Room k callerA)
    (F : ∀ base : Heap, K.In base → base.Ns mainGlobals mg → FnOk P w K mg base CX k fa fd [x] sp) (hbind : ∀ (s : Shared) (u : Value), BindsTo s fd ⟨[u], []⟩ [(x, u)])
    (hsp : ∀ H : Hp, Only H → SqL K H a (ns.map V.int) → sp [.ref a] H (fun v _ => v = .bl true) fun _ _ _ => False)
    (hCX : ∀ H e s', CX [] H s₁ (fun _ _ _ => False) e s' → False) :
    codeAny (model P w) callerA (.call (.ref fa) ⟨[.ref a], []⟩) (fun r s' => r = .ok (.ret (.bool true)) ∧ OldK s₁.heap s'.heap ∧ s'.os = s₁.os ∧ AllBare s'.gens) s₁ := by
  have rv := vals_ints hi
  have lenV := hi.length
  -- from an abstract heap in which nothing but the script may be tracked
  have core : ∀ H : Hp, Only H → SqL K H a (ns.map V.int) → HOk P w H s₁.heap → (∀ b, H b ≠ none → b = a) → (H a ≠ none → K.lookup a = none) →
      codeAny (model P w) callerA (.call (.ref fa) ⟨[.ref a], []⟩) (fun r s' => r = .ok (.ret (.bool true)) ∧ OldK s₁.heap s'.heap ∧ s'.os = s₁.os ∧ AllBare s'.gens) s₁ := by
    intro H hO hS hok hA hK
    have base_of : ∀ {b : Addr} {o : Obj}, s₁.heap.get? b = some o → H b = none → (hidT s₁.heap H).get? b = some o := fun e n => hidT_get e n
    have noA : ∀ {b : Addr} {o : Obj} {es : Array DictEntry} {ep : Nat}, s₁.heap.get? b = some o → o.data = .dict es ep → H b = none := fun {b o es ep} e d => by
      cases q : H b with
      | none => rfl
      | some u =>
        have e' : b = a := hA b (by rw [q]; simp)
        subst e'
        rw [ha] at e; cases e
        have d' : Data.seq vs.toArray _ = Data.dict es ep := d
        cases d'
    have nsK : ∀ {b : Addr} {m : Str → Option Value}, s₁.heap.Ns b m → (hidT s₁.heap H).Ns b m := fun {b m} ⟨o, es, ep, e, d, r⟩ => ⟨o, es, ep, base_of e (noA e d), d, r⟩
    have hKb : K.In (hidT s₁.heap H) := fun b o e => base_of (KX b o e) (by
      cases q : H b with
      | none => rfl
      | some u =>
        have e' : b = a := hA b (by rw [q]; simp)
        subst e'
        rw [hK (by rw [q]; simp)] at e; cases e)
    have hM : Mod K mg (hidT s₁.heap H) := ⟨hKb, nsK hns, ⟨mb, nsK hb, hbb⟩, let ⟨mc, h1, h2⟩ := hlim; ⟨mc, nsK h1, h2⟩⟩
    have e0 : Env0 P w K mg (hidT s₁.heap H) callerA [] s₁ H := ⟨rfl, hM, fun b o e => of_hidT e, Nat.le_of_eq (hidT_size _ _), trivial, fun b hb => absurd (show b ∈ ([] : List Addr) from hb) (by simp), hok, .of_eq hg⟩
    refine codeAny_mono ((F _ hKb (nsK hns)).run callerA [] s₁ H ⟨[.ref a], []⟩ [.ref a] [.ref a] _ _ hr e0 (hbind s₁ (.ref a)) (.cons rfl .nil) (hsp H hO hS)) fun r s' h => ?_
    cases r with
    | error e => exact (hCX H e s' h).elim
    | ok fl =>
      cases fl with
      | next => exact False.elim h
      | brk => exact False.elim h
      | cont => exact False.elim h
      | ret u =>
        obtain ⟨v, H', os, bare, un, hok', r', q⟩ := h
        have q' : v = .bl true := q
        subst q'
        obtain rfl : u = Value.bool true := r'
        refine ⟨rfl, OldK.of_keep fun b o e => ?_, os, bare⟩
        cases q : H b with
        | none => exact un.keep b o e q (by intro z; exact absurd (show b ∈ ([] : List Addr) from z) (by simp)) (by simp)
        | some u =>
          rcases hO b with z | ⟨ob, xs, z⟩
          · rw [q] at z; cases z
          · have z2 := un.frzs b ob _ z
            obtain ⟨e1, _⟩ := hok b _ z
            obtain ⟨e2, _⟩ := hok' b _ z2
            rw [e] at e1; cases e1
            exact e2
  cases hk : K.lookup a with
  | some o =>
    -- the script is one of the module's own objects
    have e := KX a o hk
    rw [ha] at e
    cases e
    refine core (fun _ => none) (fun _ => .inl rfl) (.inr ⟨_, vs.toArray, _, hk, rfl, rfl, rfl, by rw [List.size_toArray, lenV]; exact hl, by simpa using rv⟩) (fun b u z => by have z' : (none : Option HO) = some u := z; cases z') (fun b z => absurd rfl z) fun z => absurd rfl z
  | none =>
    refine core (fun b => if b = a then some (.frz { cls := .type "list", data := .seq vs.toArray } (.lst (ns.map V.int))) else none) (fun b => ?_) (.inl (.inr ⟨{ cls := .type "list", data := .seq vs.toArray }, if_pos rfl⟩)) (fun b u z => ?_) (fun b z => ?_) fun _ => hk
    · by_cases hb : b = a
      · exact .inr ⟨_, _, if_pos hb⟩
      · exact .inl (if_neg hb)
    · by_cases hb : b = a
      · have z' := (if_pos hb).symm.trans z
        cases z'
        subst hb
        exact ⟨ha, by rw [List.length_map]; exact hl, vs, _, rv, ha⟩
      · have z' := (if_neg hb).symm.trans z
        cases z'
    · by_cases hb : b = a
      · exact hb
      · exact absurd (if_neg hb) z
end L2
namespace L2
open PySem PySem.Spec PyProof.Rows
theorem walk_of {l : PySem.W.OpenLaw} {n k : Nat} {q : Program} {loose : List Str} {XP : (Str → Option Value) → Heap → Prop} {YP : World → Heap → Prop} {d : DefRec} {K : Params → PySem.W.Frag} {CX : World → CXT} {sp : World → Sp} {x : Str}
    (hn : l.most = some n) (hn2 : n ≤ sizeLine) (hdf : d.params.defaults = []) (hr : Room k callerA)
    (hY : ∀ (w : World) (h : Heap), YP w h → (K w.params).In h)
    (F : ∀ (w : World) (mg : Str → Option Value) (fa : Addr) (h : Heap), (K w.params).In h → h.Ns mainGlobals mg → mg d.name = some (.ref fa) →
      ∃ fd : FuncData, (∀ (s : Shared) (u : Value), BindsTo s fd ⟨[u], []⟩ [(x, u)]) ∧
        ∀ base : Heap, (K w.params).In base → base.Ns mainGlobals mg → FnOk l.prog w (K w.params) mg base (CX w) k fa fd [x] (sp w))
    (hsp : ∀ (w : World) (H : Hp) (a : Addr) (ns : List Int), ns.length ≤ n → Only H → SqL (K w.params) H a (ns.map V.int) → sp w [.ref a] H (fun v _ => v = .bl true) fun _ _ _ => False)
    (hCX : ∀ (w : World) (H : Hp) (s : Shared) (e : Value) (s' : Shared), CX w [] H s (fun _ _ _ => False) e s' → False) :
    PySem.W.WalkO q loose XP YP l.row.toRowW d [] (fun f vs => PySem.call f vs) := by
  refine Att.attach_call hn hdf fun w s₀ s₁ mg mb fa o pm cd doc a vs ns G Y ho hd hcd hmg hobj hints hlen hg => ?_
  have KX := hY w _ Y
  obtain ⟨fd, hb, hF⟩ := F w mg fa _ KX G.T.g hmg
  exact law_call KX G.T.g G.T.b G.T.builtins G.T.nolimit hg hobj hints (Nat.le_trans hlen hn2) hr hF hb (fun H hO hS => hsp w H a ns hlen hO hS) fun H e s' => hCX w H s₁ e s'
end L2
namespace L2
open PySem PySem.Spec PyProof.Rows
noncomputable def defArgs (s : Stmt) : Arguments := match s with
  | .FunctionDef _ a _ _ _ _ _ _ _ _ => a
  | _ => { posonlyargs := [], args := [], vararg := none, kwonlyargs := [], kw_defaults := [], kwarg := none, defaults := [] }
noncomputable def defBody (s : Stmt) : List Stmt := match s with
  | .FunctionDef _ _ b _ _ _ _ _ _ _ => b
  | _ => []
noncomputable def defScope (s : Stmt) : Scope := match s with
  | .FunctionDef _ _ _ _ _ _ sc _ _ _ => sc
  | _ => { kind := .function, names := [], isGenerator := false, isCoroutine := false }
noncomputable abbrev CX0 : CXT := fun _ _ _ _ _ _ => False
noncomputable abbrev E0 : XK := fun _ _ _ => False
theorem pass0 {X : Cx} : Passes CX0 X E0 := fun _ _ _ _ _ _ _ h => h.elim
structure Fun (K : PySem.W.Frag) (x qual : Str) (st : Stmt) (f : Addr) (fd : FuncData) : Prop where
  ex : ∃ (oc : Value) (od : Option Addr) (kV doc pm : Value) (an : Option Addr) (cdv ct : Value) (osl : Array (Option Value)),
    fd = PySem.W.fnOf x qual (defArgs st) (defBody st) (defScope st) .none kV doc pm an cdv ct ∧ K.lookup f = some ⟨oc, od, .func fd, osl⟩ ∧ PySem.W.codeIn K cdv qual = true
  kp : PySem.W.keepIn K (.ref f) = true
section
variable {P : Program} {w : World} {K : PySem.W.Frag} {mg : Str → Option Value} {base : Heap}
theorem Fun.ok {x qual : Str} {st : Stmt} {f : Addr} {fd : FuncData} {N ps : List Str} {k : Nat} {sp : Sp} (F : Fun K x qual st f fd) (S : FnScope N ps (defScope st)) (len : ∀ vs H Q E, sp vs H Q E → vs.length = ps.length)
    (hbody : ∀ (cdv : Value) (A : Around) (outer : List Env) (s : Shared) (H : Hp) (vs : List V) (Q : VK) (E : XK), Room k (A.deeper (envOfC qual (defScope st) s.heap.objs.size f cdv)) → sp vs H Q E →
      ∃ t, PSs (cxOf CX0 P w K mg base N qual (defScope st) f cdv A outer s H E).nox (defBody st) t ∧ t { nx := fun _ H' => Q .non H', rt := Q } (start N vs) H) : FnOk P w K mg base CX0 (k + 1) f fd ps sp := by
  obtain ⟨oc, od, kV, doc, pm, an, cdv, ct, osl, rfl, lk, hcd⟩ := F.ex
  refine fn_of lk hcd S len fun A outer s H vs Q E hr hsp => ?_
  obtain ⟨t, h, q⟩ := hbody cdv A outer s H vs Q E hr hsp
  exact ⟨t, h.nox, q⟩
theorem Fun.binds {x qual : Str} {st : Stmt} {f : Addr} {fd : FuncData} {ps : List Str} (F : Fun K x qual st f fd)
    (h : ∀ (kV doc pm : Value) (an : Option Addr) (cdv ct : Value) (us : List Value), us.length = ps.length → bindArgs (PySem.W.fnOf x qual (defArgs st) (defBody st) (defScope st) .none kV doc pm an cdv ct) ⟨us, []⟩ = pure (ps.zip us)) : Binds K fd ps [] := by
  obtain ⟨oc, od, kV, doc, pm, an, cdv, ct, osl, rfl, lk, hcd⟩ := F.ex
  exact .all (h kV doc pm an cdv ct)
theorem fun_mk {x qual : Str} {st : Stmt} {f : Addr} {oc : Value} {od an : Option Addr} {osl : Array (Option Value)} {kV doc pm cdv ct : Value} (l : K.lookup f = some ⟨oc, od, .func (PySem.W.fnOf x qual (defArgs st) (defBody st) (defScope st) .none kV doc pm an cdv ct), osl⟩)
    (c : PySem.W.codeIn K cdv qual = true) (k : PySem.W.keepIn K (.ref f) = true) : Fun K x qual st f (PySem.W.fnOf x qual (defArgs st) (defBody st) (defScope st) .none kV doc pm an cdv ct) := ⟨⟨oc, od, kV, doc, pm, an, cdv, ct, osl, rfl, l, c⟩, k⟩
end
theorem hu_of {A : Around} {k : Nat} (hr : Room k A) : A.units + 1 < cLine := Nat.lt_of_le_of_lt (Nat.add_le_add_left (by decide : 1 ≤ 64) _) hr.units
section
variable {X : Cx}
theorem pv (i : Nat) {x : Str} {pos : Pos} (hN : X.N[i]? = some x := by rfl) (hv : Vis X.env.scope x := by first | exact Or.inl rfl | exact Or.inr (Or.inl rfl) | exact Or.inr (Or.inr rfl)) (hd : (x == ("__debug__" : Str)) = false := by decide)
    (hcd : (x == ("__classdict__" : Str)) = false := by decide) : PE X (.Name x pos) (tVar i) := pe_var hN hv hd hcd
theorem call_lenD : CallR X (.builtin "len") (fun xs H Q => ∃ a kvs, xs = [V.ref a] ∧ H a = some (.dK kvs) ∧ Q (.int kvs.length) H) := by
  intro pins s σ H xs us Q I r h
  obtain ⟨a, kvs, rfl, ha, q⟩ := h
  obtain ⟨u, rfl, ru⟩ := vals1 r
  cases ru
  exact d_len I (.inl ha) fun t s' I' => ⟨.int kvs.length, H, I', ⟨t, rfl⟩, q⟩
end
noncomputable def Same (H H' : Hp) : Prop := ∀ b o, H b = some o → H' b = some o
theorem Same.refl (H : Hp) : Same H H := fun _ _ h => h
theorem Same.trans {H H1 H2 : Hp} (a : Same H H1) (b : Same H1 H2) : Same H H2 := fun c o h => b c o (a c o h)
theorem Same.free {H H' : Hp} (e : Same H H') {l : Addr} (h : H' l = Option.none) : H l = Option.none := by
  cases q : H l with
  | none => rfl
  | some o =>
    rw [e l o q] at h
    cases h
theorem Same.seq {K : PySem.W.Frag} {H H' : Hp} {a : Addr} {xs : List V} (e : Same H H') (h : SqL K H a xs) : SqL K H' a xs := by
  rcases h with (h | ⟨o, h⟩) | h
  · exact .inl (.inl (e _ _ h))
  · exact .inl (.inr ⟨o, e _ _ h⟩)
  · exact .inr h
section
variable {κ : Type} [DecidableEq κ]
end
end L2
set_option Elab.async false
set_option linter.all false
set_option maxRecDepth 100000
set_option maxHeartbeats 4000000
namespace L2
open PySem PySem.Spec PyProof.Rows
section
variable {X : Cx}
end
end L2
set_option Elab.async false
set_option linter.all false
set_option maxRecDepth 100000
set_option maxHeartbeats 4000000
namespace L2
open PySem PySem.Spec PyProof.Rows
section
variable {X : Cx}
end
end L2
set_option Elab.async false
set_option linter.all false
set_option maxRecDepth 100000
set_option maxHeartbeats 4000000
namespace L2
open PySem PySem.Spec PyProof.Rows
section
variable {X : Cx}
end
section
variable {prog : Program} {w : World} {A : Around} {E : Value → Shared → Prop} {s : Shared}
end
section
variable {X : Cx}
end
end L2
set_option Elab.async false
set_option linter.all false
set_option maxRecDepth 100000
set_option maxHeartbeats 4000000
namespace L2
open PySem PySem.Spec PyProof.Rows
section
variable {X : Cx}
end
theorem small24 {n : Nat} (h : n ≤ 1000) : n ≤ 2 ^ 24 := Nat.le_trans h (by decide)
section
variable {X : Cx}
end
end L2
set_option Elab.async false
set_option linter.all false
set_option maxRecDepth 100000
set_option maxHeartbeats 4000000
namespace L2
open PySem PySem.Spec PyProof.Rows
open PySem.W (Dat kqdP kqdPs kqdOk)
mutual
inductive DV (H : Hp) : V → Dat → Prop
  | non : DV H .non .none
  | int (i : Int) : DV H (.int i) (.int i)
  | str (x : Str) : DV H (.str x) (.str x)
  | tup {a : Addr} {xs : List V} {ds : List Dat} (e : H a = some (.tup xs)) (r : DVs H xs ds) : DV H (.ref a) (.tuple ds)
  | lst {a : Addr} {xs : List V} {ds : List Dat} (e : H a = some (.lst xs)) (r : DVs H xs ds) : DV H (.ref a) (.list ds)
inductive DVs (H : Hp) : List V → List Dat → Prop
  | nil : DVs H [] []
  | cons {x : V} {d : Dat} {xs : List V} {ds : List Dat} (h : DV H x d) (r : DVs H xs ds) : DVs H (x :: xs) (d :: ds)
end
mutual
theorem DV.reads {P : Program} {w : World} {H : Hp} {h : Heap} (ok : HOk P w H h) : ∀ {x : V} {d : Dat} {u : Value}, DV H x d → RelV x u → ∃ as, Reads h u (kqdP d) as
  | _, _, _, .non, r => by cases r; exact ⟨_, by rw [kqdP]; exact Reads.none⟩
  | _, _, _, .int i, r => by obtain ⟨t, rfl⟩ := r; exact ⟨_, by rw [kqdP]; exact Reads.int i t⟩
  | _, _, _, .str x, r => by obtain ⟨t, rfl⟩ := r; exact ⟨_, by rw [kqdP]; exact Reads.str x t⟩
  | _, _, _, .tup (a := a) e q, r => by
    cases r
    obtain ⟨_, its, rv, o, h1, h2, n, h3⟩ := ok a _ e
    obtain ⟨as, z⟩ := DVs.reads ok q rv
    rw [kqdP]
    exact ⟨as, reads_tuple_at h1 h2 h3 (by simpa using z)⟩
  | _, _, _, .lst (a := a) e q, r => by
    cases r
    obtain ⟨_, its, n, rv, h1⟩ := ok a _ e
    obtain ⟨as, z⟩ := DVs.reads ok q rv
    rw [kqdP]
    exact ⟨_, reads_list_at h1 rfl rfl (by simpa using z)⟩
theorem DVs.reads {P : Program} {w : World} {H : Hp} {h : Heap} (ok : HOk P w H h) : ∀ {xs : List V} {ds : List Dat} {us : List Value}, DVs H xs ds → Vals xs us → ∃ as, ReadsAll h us (kqdPs ds) as
  | _, _, _, .nil, r => by cases r; exact ⟨_, by rw [kqdPs]; exact ReadsAll.nil⟩
  | _, _, _, .cons p q, r => by
    cases r with
    | cons r1 r2 =>
      obtain ⟨as, z⟩ := DV.reads ok p r1
      obtain ⟨bs, y⟩ := DVs.reads ok q r2
      rw [kqdPs]
      exact ⟨_, ReadsAll.cons z y⟩
end
mutual
theorem DV.mono {H H' : Hp} (s : ∀ b o, H b = some o → H' b = some o) : ∀ {x : V} {d : Dat}, DV H x d → DV H' x d
  | _, _, .non => .non
  | _, _, .int i => .int i
  | _, _, .str x => .str x
  | _, _, .tup e q => .tup (s _ _ e) (DVs.mono s q)
  | _, _, .lst e q => .lst (s _ _ e) (DVs.mono s q)
theorem DVs.mono {H H' : Hp} (s : ∀ b o, H b = some o → H' b = some o) : ∀ {xs : List V} {ds : List Dat}, DVs H xs ds → DVs H' xs ds
  | _, _, .nil => .nil
  | _, _, .cons p q => .cons (DV.mono s p) (DVs.mono s q)
end
theorem DVs.ints {H : Hp} : ∀ ns : List Int, DVs H (ns.map V.int) (ns.map Dat.int)
  | [] => .nil
  | n :: r => .cons (.int n) (DVs.ints r)
theorem dat_shaped {n : Nat} {d : Dat} (h : kqdOk n d = true) (hn : n ≤ 9) : SeqAt.shaped (kqdP d) = true := by
  have l := PySem.W.kqd_lay n d h
  unfold SeqAt.shaped
  rw [l.1, Bool.true_and]
  exact decide_eq_true (Nat.le_trans l.2 (Nat.le_trans hn (by decide)))
open Classical in
theorem dat_eqv {n k : Nat} {d e : Dat} (h : kqdOk n d = true) (h' : kqdOk k e = true) : PyData.eqv (kqdP d) (kqdP e) = decide (d = e) := by
  have q := PySem.W.kqd_eqv n d e k h h'
  by_cases hq : d = e
  · rw [decide_eq_true hq]; exact q.mpr hq
  · rw [decide_eq_false hq]; exact Bool.eq_false_iff.mpr fun x => hq (q.mp x)
section
variable {X : Cx}
noncomputable def rDat (neg : Bool) : R2 := fun x y H Q => ∃ d e n, DV H x d ∧ DV H y e ∧ kqdOk n d = true ∧ kqdOk n e = true ∧ n ≤ 9 ∧ ((d = e → Q (.bl (!neg)) H) ∧ (d ≠ e → Q (.bl neg) H))
theorem op_eqD (hu : X.A.units + 64 < cLine) : OpR X (compareOp .Eq) (rDat false) := by
  classical
  intro pins s σ H x y v u Q I rx ry h
  obtain ⟨d, e, n, dx, dy, hd, he, hn, q1, q2⟩ := h
  obtain ⟨as, ra⟩ := dx.reads I.hok rx
  obtain ⟨bs, rb⟩ := dy.reads I.hok ry
  refine eq_dataH ra rb (dat_shaped hd hn) (dat_shaped he hn) hu ?_
  rw [dat_eqv hd he]
  by_cases hq : d = e
  · rw [decide_eq_true hq]; exact ⟨.bl true, H, I, rfl, q1 hq⟩
  · rw [decide_eq_false hq]; exact ⟨.bl false, H, I, rfl, q2 hq⟩
theorem op_neD (hu : X.A.units + 64 < cLine) : OpR X (compareOp .NotEq) (rDat true) := by
  classical
  intro pins s σ H x y v u Q I rx ry h
  obtain ⟨d, e, n, dx, dy, hd, he, hn, q1, q2⟩ := h
  obtain ⟨as, ra⟩ := dx.reads I.hok rx
  obtain ⟨bs, rb⟩ := dy.reads I.hok ry
  refine ne_dataH ra rb (dat_shaped hd hn) (dat_shaped he hn) hu ?_
  rw [dat_eqv hd he]
  by_cases hq : d = e
  · rw [decide_eq_true hq]; exact ⟨.bl false, H, I, rfl, q1 hq⟩
  · rw [decide_eq_false hq]; exact ⟨.bl true, H, I, rfl, q2 hq⟩
theorem call_isinst : CallR X (.builtin "isinstance") (fun xs H Q => ∃ x T t b, xs = [x, .ty T] ∧ TyOf X.K H x (.type t) ∧ PySem.W.kitOne X.K (.type t) (.type T) = some b ∧ Q (.bl b) H) := by
  intro pins s σ H xs us Q I r h
  obtain ⟨x, T, t, b, rfl, ty, e, q⟩ := h
  obtain ⟨u, c, rfl, ru, rc⟩ := vals2 r
  cases (show c = Value.type T from rc)
  exact isinst_ok I ru ty e fun tk => ⟨.bl b, H, I.tok _, rfl, q⟩
end
end L2
set_option Elab.async false
set_option linter.all false
set_option maxRecDepth 100000
set_option maxHeartbeats 4000000
namespace SortT
open PySem PySem.W PyProof.Rows
structure Ord (f : Nat → Nat → Bool) : Prop where
  asym : ∀ i j, f i j = true → f j i = false
  tr : ∀ i j k, f j i = false → f k j = false → f k i = false
section
variable {f : Nat → Nat → Bool} (O : Ord f)
noncomputable def Le (f : Nat → Nat → Bool) (i j : Nat) : Prop := f j i = false
include O in
theorem le_refl (i : Nat) : Le f i i := by
  unfold Le
  cases h : f i i with
  | false => rfl
  | true => have := O.asym i i h; rw [h] at this; cases this
theorem Le.trans {i j k : Nat} (O : Ord f) (h : Le f i j) (h' : Le f j k) : Le f i k := O.tr i j k h h'
theorem Le.of {i j : Nat} (O : Ord f) (h : f i j = true) : Le f i j := O.asym i j h
noncomputable abbrev at_ (p : Array Nat) (i : Nat) : Nat := p.getD i 0
end
end SortT
set_option Elab.async false
set_option linter.all false
set_option maxRecDepth 100000
set_option maxHeartbeats 4000000
namespace SortT
open PySem PySem.W PyProof.Rows
noncomputable def AllT {α : Type} (P : Nat → Nat → Prop) (R : α → Prop) : KasT α → Prop
  | .ret a => R a
  | .ask i j k => P i j ∧ ∀ b, AllT P R (k b)
theorem AllT.bind {α β : Type} {P : Nat → Nat → Prop} {R : α → Prop} {S : β → Prop} {g : α → KasT β} : ∀ {t : KasT α}, AllT P R t → (∀ a, R a → AllT P S (g a)) → AllT P S (t.bind g)
  | .ret a, h, hg => hg a h
  | .ask i j k, h, hg => ⟨h.1, fun b => AllT.bind (h.2 b) hg⟩
section
variable {N : Nat}
noncomputable def Bd (N : Nat) (p : Array Nat) : Prop := 0 < N ∧ ∀ x ∈ p.toList, x < N
theorem Bd.at {p : Array Nat} (h : Bd N p) (i : Nat) : p.getD i 0 < N := by
  rw [Array.getD_eq_getD_getElem?]
  cases e : p[i]? with
  | none => exact h.1
  | some x => exact h.2 x (by rw [← Array.getElem?_toList] at e; exact List.mem_of_getElem? e)
theorem Bd.perm {p q : Array Nat} (h : Bd N p) (hp : q.Perm p) : Bd N q := ⟨h.1, fun x hx => h.2 x ((Array.perm_iff_toList_perm.mp hp).mem_iff.mp hx)⟩
end
section
variable {prog : Program} {w : World} {A : Around} {E : Value → Shared → Prop} {s : Shared}
end
end SortT
namespace L2
open PySem PySem.Spec PyProof.Rows
theorem ObjOk.there {P : Program} {w : World} {H : Hp} {h : Heap} {a : Addr} {o : HO} (x : ObjOk P w H h a o) : ∃ ob, h.get? a = some ob := by
  cases o with
  | lst xs => obtain ⟨_, _, _, _, e⟩ := x; exact ⟨_, e⟩
  | tup xs => obtain ⟨_, _, _, o, e, _⟩ := x; exact ⟨_, e⟩
  | dK kvs => obtain ⟨_, _, _, _, o, _, _, e, _⟩ := x; exact ⟨_, e⟩
  | dT kvs => obtain ⟨_, _, _, _, o, _, _, e, _⟩ := x; exact ⟨_, e⟩
  | set S n => obtain ⟨o, _, _, _, e, _⟩ := x; exact ⟨_, e⟩
  | ins C dx fs => obtain ⟨_, _, _, e, _⟩ := x; exact ⟨_, e⟩
  | own y => exact x
  | xd fs => obtain ⟨_, ⟨_, _, _, e, _⟩, _⟩ := x; exact ⟨_, e⟩
  | rng lo hi => obtain ⟨_, _, _, e⟩ := x; exact ⟨_, e⟩
  | frz ob u => obtain ⟨e, _⟩ := x; exact ⟨_, e⟩
  | tbl ps => obtain ⟨_, e, _⟩ := x; exact ⟨_, e⟩
  | met f y => exact ⟨_, (show h.get? a = some _ from x)⟩
  | ext φ => obtain ⟨_, e, _⟩ := x; exact e
section
variable {X : Cx}
end
end L2
set_option Elab.async false
set_option linter.all false
set_option maxRecDepth 100000
set_option maxHeartbeats 4000000
namespace L2
open PySem PySem.Spec PyProof.Rows
theorem Same.put {H H' : Hp} {a : Addr} {o : HO} (s : Same H H') (h : H a = none) : Same H (upd H' a o) := fun b u e => by rw [upd_ne (ne_of_none e h)]; exact s b u e
theorem Same.new {H H' : Hp} {a : Addr} {o : HO} (s : Same H H') (h : H' a = none) : Same H (upd H' a o) := s.put (s.free h)
end L2
set_option Elab.async false
set_option linter.all false
set_option maxRecDepth 100000
set_option maxHeartbeats 4000000
namespace L2
open PySem PySem.Spec PyProof.Rows
section
variable {X : Cx}
end
end L2
set_option Elab.async false
set_option linter.all false
set_option maxRecDepth 100000
set_option maxHeartbeats 4000000
namespace HT
open PySem PySem.Spec PyProof.Rows L2
section
variable {prog : Program} {w : World} {A : Around} {E : Value → Shared → Prop} {s : Shared}
theorem cat_tup0 {t b : Addr} {ws : List Value} {Q : Value → Shared → Prop} (ht : IsTup s.heap t ([] : List Value).toArray) (hb : IsTup s.heap b ws.toArray) (h1 : Q (.ref b) s) : wpAny (model prog w) A (binaryOp .Add (.ref t) (.ref b)) Q E s := by
  obtain ⟨⟨cls, dd, data, sl⟩, ho, hc, n, hd⟩ := id ht
  obtain ⟨⟨cls2, dd2, data2, sl2⟩, ho2, hc2, n2, hd2⟩ := id hb
  simp only at hc hd hc2 hd2
  subst hc hd hc2 hd2
  exact concat_meets ⟨_, ho, rfl⟩ ⟨_, ho2, rfl⟩ noFill_tuple_add seq_tuple_add PySem.F.slot_tuple_add PySem.F.entry_tuple_add (PySem.F.args_tuple_add_2 _ _)
      (tuple_addW0 t b ([] : List Value).toArray ws.toArray n n2 dd dd2 sl sl2 rfl) ⟨ho, ho2, h1⟩
theorem getItem_tuple_whole {t sl : Addr} {items : Array Value} {vl vu : Value} {lo hi : Option Int} {Q : Value → Shared → Prop} (ht : IsTup s.heap t items) (hs : s.heap.IsSliceOf sl vl vu .none) (pl : IsPart vl lo) (pu : IsPart vu hi)
    (hw : sIx items.size 0 lo = 0 ∧ sIx items.size items.size hi = items.size)
    (h : Q (.ref t) s) : wpAny (model prog w) A (getItem (.ref t) (.ref sl)) Q E s := by
  obtain ⟨os, hos, hcs, hds⟩ := id hs
  have hTs : s.TypeIs (.ref sl) "slice" := ⟨os, hos, hcs⟩
  unfold getItem
  try with_reducible refine wpAny_holding ?_
  first | refine wpAny_bind (wpAny_pure ?_) | skip
  refine wpAny_bind (wpAny_sequenceKey ht.typeIs (by decide) ?_)
  refine wpAny_bind (wpAny_callSpecial?_slot (name := Str.ofString "__getitem__") ht.typeIs PyProof.Rows.slot_tuple_getitem
    (wpAny_call_entry PyProof.Rows.slot_tuple_getitem ht.typeIs entry_tuple_getitem ?_ (args_tuple_getitem _ _)))
  show wpAny _ _ (Builtin.Tuple.tupleItemsOf (.ref t) >>= _) _ _ s
  refine wpAny_bind (tupleItemsOf_ ht ?_)
  refine wpAny_bind (wpAny_typeOf hTs ?_)
  rw [if_pos (by decide)]
  refine wpAny_bind (sliceApplied_gen hs pl pu ?_)
  have hyes : (((sIx items.size 0 lo : Nat) : Int) == 0 && (1 : Int) == 1 && (sIx items.size items.size hi - sIx items.size 0 lo) == items.size) = true := by
    rw [hw.1, hw.2]; simp
  show wpAny _ _ (if (((sIx items.size 0 lo : Nat) : Int) == 0 && (1 : Int) == 1 && (sIx items.size items.size hi - sIx items.size 0 lo) == items.size) = true then _ else _) _ _ s
  rw [if_pos hyes]
  refine wpAny_bind (wpAny_bind (wpAny_typeOf ht.typeIs (wpAny_pure ?_)))
  rw [if_pos (by decide)]
  refine wpAny_bind (wpAny_rule ?_)
  first
    | exact wpAny_bind (wpAny_pure (wpAny_pure ⟨_, rfl, wpAny_pure h⟩))
    | exact wpAny_pure ⟨_, rfl, wpAny_pure h⟩
    | exact wpAny_bind (wpAny_pure ⟨_, rfl, wpAny_pure h⟩)
end
end HT
namespace L2
open PySem PySem.Spec PyProof.Rows
section
variable {X : Cx}
noncomputable def rCat0 (K : PySem.W.Frag) : R2 := fun x y H Q => ∃ a b ys, x = .ref a ∧ y = .ref b ∧ SqT K H a [] ∧ SqT K H b ys ∧ Q (.ref b) H
theorem op_cat0 : OpR X (binaryOp .Add) (rCat0 X.K) := by
  intro pins s σ H x y v u Q I rx ry h
  obtain ⟨a, b, ys, rfl, rfl, ha, hb, q⟩ := h
  cases rx
  cases ry
  obtain ⟨its, r1, p1, _⟩ := I.tuple ha
  obtain ⟨its2, r2, p2, _⟩ := I.tuple hb
  have : its = [] := by cases r1; rfl
  subst this
  exact HT.cat_tup0 p1 p2 ⟨.ref b, H, I, rfl, q⟩
noncomputable def rSlW (K : PySem.W.Frag) : V → Option Int → Option Int → Hp → VK → Prop := fun x lo hi H Q => ∃ a xs, x = .ref a ∧ SqT K H a xs ∧
  (HT.sIx xs.length 0 lo = 0 ∧ HT.sIx xs.length xs.length hi = xs.length) ∧ Q (.ref a) H
theorem sl_tupW : SlR X (rSlW X.K) := by
  intro pins s σ H x v vl vu lo hi sl Q I rx hs pl pu h
  obtain ⟨a, xs, rfl, hx, hw, q⟩ := h
  cases rx
  obtain ⟨its, r, ht, hz⟩ := I.tuple hx
  have hlen : its.toArray.size = xs.length := by rw [List.size_toArray]; exact r.length.symm
  refine ⟨"tuple", _, PyProof.Rows.slot_tuple_getitem.lookup, ht.typeIs, ?_⟩
  exact HT.getItem_tuple_whole ht hs pl pu (by rw [hlen]; exact hw) ⟨.ref a, H, I, rfl, q⟩
end
end L2
set_option Elab.async false
set_option linter.all false
set_option maxRecDepth 100000
set_option maxHeartbeats 4000000
namespace HT
open PySem PySem.Spec PyProof.Rows L2
section
variable {prog : Program} {w : World} {K : Type} [DecidableEq K] {knd : KeyKind prog w K} {A : Around} {E : Value → Shared → Prop} {s : Shared}
end
section
variable {prog : Program} {w : World} {A : Around} {E : Value → Shared → Prop} {s : Shared}
end
section
variable {prog : Program} {w : World} {K : Type} [DecidableEq K] {knd : KeyKind prog w K} {A : Around} {E : Value → Shared → Prop} {s : Shared}
end
end HT
namespace L2
open PySem PySem.Spec PyProof.Rows
section
variable {X : Cx}
end
end L2
set_option Elab.async false
set_option linter.all false
set_option maxRecDepth 100000
set_option maxHeartbeats 4000000
namespace L2
open PySem PySem.Spec PyProof.Rows
section
variable {X : Cx}
noncomputable def FT (x : V) (H : Hp) : Prop := ∃ p o xs, x = .ref p ∧ H p = some (.frz o (.tup xs)) ∧ o.dict = none
theorem FT.is {pins : List (Addr × Obj)} {σ : St} {H : Hp} {s : Shared} {x : V} {v : Value} (I : Inv X pins σ H s) (r : RelV x v) (h : FT x H) :
    s.TypeIs v "tuple" ∧ ∀ a, v = .ref a → ∃ ob, s.heap.get? a = some ob ∧ ob.dict = none := by
  obtain ⟨p, o, xs, rfl, h1, h2⟩ := h
  cases r
  obtain ⟨e, _, its, _, o', e', c, n, d⟩ := I.hok p _ h1
  rw [e] at e'
  cases e'
  exact ⟨⟨o, e, c⟩, fun a ea => by cases ea; exact ⟨o, e, h2⟩⟩
variable {o e : Expr} {es : List Expr} {to : TE} {t : TA} {name : Str} {apos cpos : Pos} {T id : String} {r : V → List V → Hp → VK → Prop}
end
end L2
set_option Elab.async false
set_option linter.all false
set_option maxRecDepth 100000
set_option maxHeartbeats 4000000
namespace L2
open PySem PySem.Spec PyProof.Rows
section
variable {prog : Program} {w : World} {A : Around} {R : Result → Shared → Prop} {s : Shared}
end
section
variable {X : Cx}
end
end L2
set_option Elab.async false
set_option linter.all false
set_option maxRecDepth 100000
set_option maxHeartbeats 4000000
namespace HT
open PySem PySem.Spec PyProof.Rows L2
section
variable {prog : Program} {w : World} {A : Around} {E : Value → Shared → Prop} {s : Shared}
end
section
variable {prog : Program} {w : World} {A : Around} {E : Value → Shared → Prop} {s : Shared}
end
end HT
namespace L2
open PySem PySem.Spec PyProof.Rows
section
variable {X : Cx}
end
end L2
set_option Elab.async false
set_option linter.all false
set_option maxRecDepth 100000
set_option maxHeartbeats 4000000
namespace L2
open PySem PySem.Spec PyProof.Rows
open Builtin.Str (glued partsBetween occurrences tooLong strSub)
section
variable {X : Cx}
end
end L2
set_option Elab.async false
set_option linter.all false
set_option maxRecDepth 100000
set_option maxHeartbeats 4000000
namespace L2
open PySem PySem.Spec PyProof.Rows
section
variable {X : Cx}
end
end L2
set_option Elab.async false
set_option linter.all false
set_option maxRecDepth 100000
set_option maxHeartbeats 4000000
namespace HT
open PySem PySem.Spec PyProof.Rows L2
section
variable {prog : Program} {w : World} {A : Around} {E : Value → Shared → Prop} {s : Shared}
end
section
variable {prog : Program} {w : World} {A : Around} {E : Value → Shared → Prop} {s : Shared}
end
end HT
namespace L2
open PySem PySem.Spec PyProof.Rows
section
variable {X : Cx}
end
end L2
set_option Elab.async false
set_option linter.all false
set_option maxRecDepth 100000
set_option maxHeartbeats 4000000
namespace L2
open PySem PySem.Spec PyProof.Rows
open Builtin.Str (occurrences strSub subAt)
section
variable {X : Cx} {e : Expr} {te : TE} {lo hi st : Option Expr} {tl th ts : TO} {p2 pos : Pos}
end
end L2
set_option Elab.async false
set_option linter.all false
set_option maxRecDepth 100000
set_option maxHeartbeats 4000000
namespace L2
open PySem PySem.Spec PyProof.Rows
section
variable {X : Cx}
end
end L2
set_option Elab.async false
set_option linter.all false
set_option maxRecDepth 100000
set_option maxHeartbeats 4000000
namespace RV
open PySem PySem.Spec
noncomputable def IsRev (h : Heap) (a t : Addr) (i : Int) : Prop := ∃ o, h.get? a = some o ∧ o.cls = .type "reversed" ∧ o.data = .fields #[.ref t, rawInt i]
section
variable {prog : Program} {w : World} {A : Around} {E : Value → Shared → Prop} {s : Shared}
theorem IsRev.ty {a t : Addr} {i : Int} (x : IsRev s.heap a t i) : s.TypeIs (.ref a) "reversed" := let ⟨o, ho, hc, _⟩ := x; ⟨o, ho, hc⟩
theorem IsRev.at {h h' : Heap} {a t : Addr} {i : Int} (x : IsRev h a t i) (e : ∀ o, h.get? a = some o → h'.get? a = some o) : IsRev h' a t i := let ⟨o, ho, r⟩ := x; ⟨o, e _ ho, r⟩
end
end RV
namespace L2
open PySem PySem.Spec PyProof.Rows
section
variable {X : Cx} {tg : Expr}
end
end L2
set_option Elab.async false
set_option linter.all false
set_option maxRecDepth 100000
set_option maxHeartbeats 4000000
namespace PT
open PySem PySem.Spec
section
variable {prog : Program} {w : World} {K : Type} [DecidableEq K] {knd : HeapKind prog w K} {A : Around} {E : Value → Shared → Prop} {s : Shared}
noncomputable def wo (xs : List (K × Addr × Value)) (k : K) : List (K × Addr × Value) := xs.filter fun x => decide (x.1 ≠ k)
theorem wo_at {k : K} : ∀ {xs : List (K × Addr × Value)} {j : Nat} {p : Addr × Value}, (xs.map (·.1)).Nodup → xs[j]? = some (k, p) → xs.eraseIdx j = wo xs k
  | x :: xs, 0, p, hn, h => by
    cases h
    obtain ⟨h1, _⟩ := List.nodup_cons.mp hn
    unfold wo
    rw [List.eraseIdx_cons_zero, List.filter_cons_of_neg (by simp)]
    symm
    rw [List.filter_eq_self]
    intro y hy
    have : y.1 ≠ k := fun e => h1 (by rw [← e]; exact List.mem_map.mpr ⟨y, hy, rfl⟩)
    simpa using this
  | x :: xs, j + 1, p, hn, h => by
    obtain ⟨h1, h2⟩ := List.nodup_cons.mp hn
    have h' : xs[j]? = some (k, p) := by simpa using h
    have hm : k ∈ xs.map (·.1) := List.mem_map.mpr ⟨_, List.mem_of_getElem? h', rfl⟩
    have hx : x.1 ≠ k := fun e => h1 (by show x.1 ∈ _; rw [e]; exact hm)
    rw [List.eraseIdx_cons_succ, wo_at h2 h']
    unfold wo
    rw [List.filter_cons_of_pos (by simpa using hx)]
theorem erase_map {α β : Type} {f : α → β} : ∀ {l : List α} {i : Nat}, (l.map f).eraseIdx i = (l.eraseIdx i).map f
  | [], _ => rfl
  | _ :: _, 0 => rfl
  | x :: l, i + 1 => by rw [List.map_cons, List.eraseIdx_cons_succ, List.eraseIdx_cons_succ, List.map_cons, erase_map]
theorem take_heap {d a : Addr} {xs : List (K × Addr × Value)} {k : K} {p : Addr × Value} {Q : Option DictEntry → Shared → Prop} (hu : knd.room A) (hkey : knd.is s.heap k a) (hm : s.heap.DictOfH knd d xs) (hz : xs.length ≤ sizeLine) (hp : atKey xs k = some p)
    (hQ : ∀ e h', e.val = p.2 → h'.DictOfH knd d (wo xs k) → Heap.SameBut d s.heap h' → Q (some e) { s with heap := h', toks := s.toks + knd.draws k }) : wpAny (model prog w) A (Builtin.Dict.takeOut d (.ref a)) Q E s := by
  obtain ⟨o, es, ep, ho, hc, hd, he, his, hn⟩ := hm
  unfold Builtin.Dict.takeOut
  try with_reducible refine wpAny_holding ?_
  refine wpAny_bind (knd.pyHash hu hkey (wpAny_bind (wpAny_dictFind_heap (s := { s with toks := s.toks + knd.draws k }) hu hkey ho hd he his hn ?_ ?_)))
  · intro hno
    rw [atKey_none_of_get hno] at hp
    cases hp
  · intro j q hj
    rw [atKey_of_get hn hj] at hp
    cases hp
    refine wpAny_bind (wpAny_dictEntries (s := { s with toks := s.toks + knd.draws k }) ho hd ?_)
    rw [entry_at he j, hj]
    refine wpAny_bind (wpAny_updateDictKeys (hz := by have e := size_of_entries he; omega) (s := { s with toks := s.toks + knd.draws k }) ho hd (wpAny_pure (hQ _ _ rfl ⟨_, _, ep + 1, Heap.get?_update_self _ ho (Obj.isFreed_of_dict (Obj.data_mapDictKeys hd _)),
      hc.mapDictKeys _, Obj.data_mapDictKeys hd _, ?_, ?_, ?_⟩ (Heap.SameBut.update ..))))
    · rw [← wo_at hn hj]
      obtain ⟨l⟩ := es
      have : l = xs.map (entryOfKey knd) := he
      subst this
      simp [erase_map]
    · intro x hx
      exact knd.keeps (his x (List.mem_filter.mp hx).1) ho hd (Heap.SameBut.update ..)
    · exact hn.sublist (List.filter_sublist.map _)
theorem pop_meets {d a : Addr} : MeetsIn prog w (Builtin.«dict.pop» ⟨[.ref d, .ref a], []⟩) (fun A R s => knd.room A.in1 ∧ ∃ k xs p, knd.is s.heap k a ∧ s.heap.DictOfH knd d xs ∧ xs.length ≤ sizeLine ∧ atKey xs k = some p ∧
      ∀ h', h'.DictOfH knd d (wo xs k) → Heap.SameBut d s.heap h' → R (.ok (.ret p.2)) { s with heap := h', toks := s.toks + knd.draws k }) :=
  .of_wp fun A R s ⟨hu, k, xs, p, hkey, hm, hz, hp, h⟩ => by
    unfold Builtin.«dict.pop»
    refine wpAny_bind ?_
    unfold Builtin.Dict.keyAndDefault
    refine wpAny_bind (wpAny_notOrdered_dict hm.typeIs ?_)
    show wpAny _ _ (pure (d, Value.ref a, none)) _ _ s
    refine wpAny_pure ?_
    obtain ⟨o, es, ep, ho, hc, hd, he, his, hn⟩ := id hm
    have hne : es.isEmpty = false := by
      cases hx : xs with
      | nil => subst hx; cases hp
      | cons x r =>
        subst hx
        obtain ⟨l⟩ := es
        have : l = (x :: r).map (entryOfKey knd) := he
        subst this
        rfl
    simp only [keyPart, Option.isSome_none, Bool.false_eq_true, if_false]
    refine wpAny_bind (m := dictEntries d none) (wpAny_dictEntries ho hd ?_)
    refine wpAny_bind (wpAny_pure ?_)
    rw [hne]
    simp only [Bool.false_eq_true, if_false]
    refine wpAny_bind (take_heap hu hkey hm hz hp fun e h' hv hm' hs' => ?_)
    simp only [Option.isNone_some, Bool.false_eq_true, if_false]
    exact wpAny_bind (wpAny_letGo (wpAny_pure ⟨e.val, rfl, by rw [hv]; exact h h' hm' hs'⟩))
theorem len_meets {d : Addr} (hd : (d == sysModules) = false) : MeetsIn prog w (Builtin.«dict.__len__» ⟨[.ref d], []⟩) (fun _ R s => ∃ xs, s.heap.DictOfH knd d xs ∧ R (.ok (.ret (.int xs.length s.toks))) { s with toks := s.toks + 1 }) :=
  .of_wp fun A R s ⟨xs, hm, h⟩ => by
    obtain ⟨o, es, ep, ho, hc, hdat, he, his, hn⟩ := hm
    show wpAny _ _ (dictSize d >>= _) _ _ s
    unfold dictSize
    refine wpAny_bind (wpAny_bind (wpAny_dictEntries ho hdat (wpAny_pure ?_)))
    show wpAny _ _ (Builtin.Dict.pendingCount d >>= _) _ _ s
    refine wpAny_bind (wpAny_pendingCount_other hd ?_)
    refine wpAny_ret_mkInt ?_
    have : es.size = xs.length := size_of_entries he
    rw [Nat.add_zero, this]; exact h
theorem call_len {d : Addr} {xs : List (K × Addr × Value)} {Q : Value → Shared → Prop} (hd : (d == sysModules) = false) (hm : s.heap.DictOfH knd d xs) (hfit : (xs.length : Int) < 2 ^ 63)
    (h : Q (.int xs.length (s.toks + 1)) { s with toks := s.toks + 1 + 1 }) : wpAny (model prog w) A (call (.builtin "len") [.ref d]) Q E s := by
  refine Calls.call_function_entry kind_len plain_len entry_len (args_len1 _) ?_
  unfold Builtin.«len»
  refine wpAny_bind (m := oneArg "len" _) (wpAny_pure ?_)
  refine wpAny_bind (m := callSpecial? (.ref d) (Str.ofString "__len__")) (wpAny_callSpecial?_slot (name := Str.ofString "__len__") hm.typeIs F.slot_dict_len
    (call_meetsIn F.slot_dict_len hm.typeIs F.entry_dict_len (F.args_dict_len_1 _) (len_meets (knd := knd) hd) ⟨xs, hm, ?_⟩))
  show wpAny _ _ _ _ _ { s with toks := s.toks + 1 }
  refine wpAny_bind (wpAny_holding (wpAny_pure ?_))
  refine wpAny_bind (wpAny_letGo ?_)
  show wpAny _ _ (if ((xs.length : Nat) : Int) < 0 then _ else _) _ _ _
  rw [if_neg (by omega)]
  show wpAny _ _ (if ((xs.length : Nat) : Int) ≥ 2 ^ 63 then _ else _) _ _ _
  rw [if_neg (by omega)]
  exact wpAny_bind (wpAny_mkInt (wpAny_pure ⟨_, rfl, h⟩))
end
end PT
namespace L2
open PySem PySem.Spec PyProof.Rows
section
variable {X : Cx} {pins : List (Addr × Obj)} {σ : St} {H : Hp} {s : Shared} {a b : Addr} {kvs : List (List Key × V)} {k : List Key} {A : Around} {E : Value → Shared → Prop}
theorem KT.drop {H : Hp} {kvs : List (List Key × V)} {xs : List (List Key × Addr × Value)} (r : KT H kvs xs) (k : List Key) : KT H (dropK kvs k) (PT.wo xs k) := by
  induction r with
  | nil => exact .nil
  | @cons p q ps qs hq t ih =>
    unfold dropK PT.wo at *
    by_cases e : p.1 = k
    · rw [List.filter_cons_of_neg (by simpa using e), List.filter_cons_of_neg (by simpa using (hq.1.symm.trans e))]
      exact ih
    · rw [List.filter_cons_of_pos (by simpa using e), List.filter_cons_of_pos (by simpa using (fun z => e (hq.1.trans z)))]
      exact .cons hq ih
theorem d_popT {v : V} {Q : Value → Shared → Prop} (hu : A.units + 1 < cLine) (I : Inv X pins σ H s) (e : H a = some (.dT kvs)) (eb : H b = some (.tup (k.map kV))) (l : valV kvs k = some v)
    (h : ∀ w' s', Inv X pins σ (upd H a (.dT (dropK kvs k))) s' → RelV v w' → Q w' s') : wpAny (model X.prog X.w) A (call (.builtin "dict.pop") [.ref a, .ref b]) Q E s := by
  obtain ⟨z, hd, xs, rel, dd⟩ := dt_of I.hok e
  obtain ⟨w', hw, rw'⟩ := RelO.some_of (v := v) (o := (atKey xs k).map (·.2)) (by rw [← l]; exact rel.val k)
  obtain ⟨p, hp, hp2⟩ := Option.map_eq_some_iff.mp hw
  have hz : xs.length ≤ sizeLine := by rw [← Paired.length rel]; exact z
  refine call_meetsIn PySem.F.slot_dict_pop dd.typeIs PySem.F.entry_dict_pop (PySem.F.args_dict_pop_2 _ _) (PT.pop_meets (knd := tupleKind (mixKind X.prog X.w))) ⟨tupleKind_room_in1 hu, k, xs, p, key_of I.hok eb, dd, hz, hp, fun h' dd' hs => ?_⟩
  rw [hp2]
  refine h w' _ ?_ rw'
  obtain ⟨q, es, ep, hq, h2, h3, h4, _, h5⟩ := dd'
  refine d_write I (by rw [e]; exact True.intro) hs ⟨q, hq⟩ ⟨Nat.le_trans (dropK_le kvs k) z, hd, _, (rel.drop k).keeps fun c ys ec => ?_, q, es, ep, hq, h2, h3, h4, h5⟩
  rw [upd_ne (ne_of ec e (fun z => nomatch z))]
  exact ec
end
end L2
set_option Elab.async false
set_option linter.all false
set_option maxRecDepth 100000
set_option maxHeartbeats 4000000
namespace L2
open PySem PySem.Spec PyProof.Rows
section
variable {M : Model} {A : Around} {E : Value → Shared → Prop} {s : Shared}
end
section
variable {X : Cx}
end
end L2
set_option Elab.async false
set_option linter.all false
set_option maxRecDepth 100000
set_option maxHeartbeats 4000000
namespace L2
open PySem PySem.Spec PyProof.Rows
section
variable {prog : Program} {w : World} {A : Around} {E : Value → Shared → Prop} {s : Shared}
end
section
variable {X : Cx}
end
end L2
set_option Elab.async false
set_option linter.all false
set_option maxRecDepth 100000
set_option maxHeartbeats 4000000
namespace LR
open PySem PySem.Spec PyProof.Rows
theorem no_len : typeLookup (.type "list_reverseiterator") "__len__" = pure none := by rw [typeLookup_type, builtinLookup_eq_fast]; kernel_rfl
theorem has_hint : typeLookup (.type "list_reverseiterator") "__length_hint__" = pure (some (.builtin "list_reverseiterator.__length_hint__")) := by rw [typeLookup_type, builtinLookup_eq_fast]; kernel_rfl
section
variable {prog : Program} {w : World} {A : Around} {E : Value → Shared → Prop} {s : Shared}
theorem hint {r : Addr} {Q : Bool → Shared → Prop} (ty : s.TypeIs (.ref r) "list_reverseiterator") (q : Q false s) : wpAny (model prog w) A (Builtin.List.listLengthHint (.ref r)) Q E s := by
  unfold Builtin.List.listLengthHint
  refine wpAny_bind (wpAny_specialOf ty no_len ?_)
  refine wpAny_ite_split (fun z => absurd z (by decide)) (fun _ => ?_)
  refine wpAny_ite_split (fun z => absurd z (by decide)) (fun _ => ?_)
  refine wpAny_bind (wpAny_specialOf ty has_hint ?_)
  generalize hid : ("list_reverseiterator.__length_hint__" : String) = id0
  wp_delta
  rw [show splitId id0 = some ("list_reverseiterator", "__length_hint__") from by subst hid; decide +kernel]
  subst hid
  refine wpAny_bind (wpAny_isInstance (T := "list_reverseiterator") (b := true) ty (by rw [isSubtype_type]; kernel_rfl) ?_)
  refine wpAny_ite_split (fun z => absurd z (by decide)) (fun _ => ?_)
  refine wpAny_ite_split (fun _ => ?_) (fun z => absurd (by decide +kernel) z)
  refine wpAny_ite_split (fun z => absurd z (by decide +kernel)) (fun _ => ?_)
  exact wpAny_pure q
noncomputable abbrev Back (items : Array Value) : Nat → Value → Prop := fun i v => items[items.size - 1 - i]? = some v
theorem more {R : Result → Shared → Prop} {r l S : Addr} {items : Array Value} {res : Value} {c₀ : Nat} (hh : A.handled = none) (hl : s.heap.IsList l items) (hr : s.heap.IsRevIter r l ((items.size : Int) - 1)) (hne : l ≠ r) (h1 : S ≠ r) (h2 : S ≠ l) (hz : items.size ≤ sizeLine)
    (hS : s.heap.get? S = some { cls := .type "list", data := .seq #[] c₀ })
    (q : ∀ h' tk acc c, (∀ b o, b ≠ S → b ≠ r → s.heap.get? b = some o → h'.get? b = some o) → h'.get? S = some { cls := .type "list", dict := none, data := .seq acc c, slots := #[] } → ItemsOf (Back items) acc items.size → R (.ok (.ret res)) { s with heap := h', toks := tk }) :
    wpAny (model prog w) A.in1 (Builtin.List.listExtendWith (.ref S) (.ref r) res)
      (fun fin s' => match fin with | .done f => R (.ok f) s' | .again c' => c'.quiet = true ∧ codeAny (model prog w) A c' R s') (fun e s' => R (.error e) s') s := by
  have Wk := Walks.listRev (prog := prog) (w := w) (A := A.in1) hh r l hne items
  have out : S ∉ [r, l] := by simp [h1, h2]
  have st0 : ∀ h : Heap, h.IsRevIter r l ((items.size : Int) - 1) → h.IsList l items → 0 ≤ items.size ∧ h.IsRevIter r l ((items.size : Int) - 1 - ((0 : Nat) : Int)) ∧ h.IsList l items := fun h x y => ⟨Nat.zero_le _, by rw [show (items.size : Int) - 1 - ((0 : Nat) : Int) = (items.size : Int) - 1 by omega]; exact x, y⟩
  unfold Builtin.List.listExtendWith
  refine wpAny_bind (wpAny_typeOf (T := "list_reverseiterator") hr.typeIs ?_)
  have e1 : Builtin.List.listSameRef (.ref S) (.ref r) = false := by simp [Builtin.List.listSameRef, h1]
  have e2 : (Value.type "list_reverseiterator" == Value.type "list") = false := by decide
  have e3 : (Value.type "list_reverseiterator" == Value.type "tuple") = false := by decide
  simp only [e1, e2, e3, Bool.or_false, Bool.false_eq_true, if_false]
  refine wpAny_bind (wpAny_pyIter_revIter hr ?_)
  refine wpAny_bind (wpAny_holding (hint hr.typeIs ?_))
  have key : ∀ (h : Heap) (c₁ tk : Nat), h.IsRevIter r l ((items.size : Int) - 1) → h.IsList l items → (∀ b o, b ≠ S → s.heap.get? b = some o → h.get? b = some o) →
      h.get? S = some { cls := .type "list", data := .seq #[] c₁ } → codeAny (model prog w) A (.builtin "list.extend.loop" ⟨[.ref S, .ref r, res], []⟩) R { s with heap := h, toks := tk } := by
    intro h c₁ tk x1 x2 hk x3
    refine codeAny_extend_loopS Wk.toS hz S out res items.size 0 _ #[] c₁ rfl (Nat.zero_le _) (st0 h x1 x2) x3 (ItemsOf.nil _) fun s' acc c mv x4 x5 => ?_
    rw [Moved.eq_with mv]
    exact q s'.heap s'.toks acc c (fun b o b1 b2 e => mv.heap b o (fun z => by
      rcases List.mem_cons.mp z with z | z
      · exact b1 z
      · exact b2 (List.mem_singleton.mp z)) (hk b o b1 e)) x4 x5
  refine wpAny_ite_split (fun _ => ?_) (fun _ => wpAny_pure ⟨plainId_quiet PySem.F.plain_extend_loop _, key _ c₀ _ hr hl (fun b o _ e => e) hS⟩)
  refine wpAny_bind (wpAny_rule ?_)
  refine wpAny_bind ?_
  show wpAny _ _ (updateSeq S (·.push .none) >>= fun _ => updateSeq S (·.pop)) _ _ _
  refine wpAny_bind (wpAny_updateSeq hS rfl ?_)
  have y1 := Heap.get?_update_self (Obj.mapSeq (·.push Value.none)) hS rfl
  refine wpAny_updateSeq (hz := by seq_fits) y1 rfl ?_
  have y2 := Heap.get?_update_self (Obj.mapSeq (·.pop)) y1 rfl
  have oth : ∀ b o, b ≠ S → s.heap.get? b = some o → ((s.heap.update S (Obj.mapSeq (·.push Value.none))).update S (Obj.mapSeq (·.pop))).get? b = some o := fun b o hb e =>
    (Heap.get?_update_other _ _ (Ne.symm hb)).trans ((Heap.get?_update_other _ _ (Ne.symm hb)).trans e)
  exact wpAny_pure ⟨plainId_quiet PySem.F.plain_extend_loop _, key _ _ _ (hr.at fun o e => oth r o (Ne.symm h1) e) (hl.at fun o e => oth l o (Ne.symm h2) e) oth y2⟩
end
end LR
namespace L2
open PySem PySem.Spec PyProof.Rows
section
variable {X : Cx}
end
end L2
set_option Elab.async false
set_option linter.all false
set_option maxRecDepth 100000
set_option maxHeartbeats 4000000
namespace L2
open PySem PySem.Spec PyProof.Rows
section
variable {X : Cx}
end
end L2
set_option Elab.async false
set_option linter.all false
set_option maxRecDepth 100000
set_option maxHeartbeats 4000000
namespace L2
open PySem PySem.Spec PyProof.Rows
open PySem.W (hideAll of_hideAll hideAll_get hideAll_none funFrames_hide)
structure Fly (P : Program) (w : World) (base B : Heap) (l : List PySem.Env) (H : Hp) (s : Shared) (C ea t : Addr) (H' : Hp) (s' : Shared) : Prop where
  os : s'.os = s.os
  bare : AllBare s'.gens
  un : Un (frs l) [] H H' s.heap s'.heap
  hok : HOk P w H' s'.heap
  bb : base.StaysIn B
  dom : ∀ b o, H' b = some o → ∃ ob, B.get? b = some ob
  kp : ∀ b ob, s.heap.get? b = some ob → H b = none → b ∉ frs l → B.get? b = some ob
  th : ∀ b ob, s.heap.get? b = some ob → b ∉ frs l → ∃ o', B.get? b = some o'
  fly : Heap.FlyingW B l ea (.ref C) (.ref t) s'.heap
  new : s.heap.get? ea = none
theorem hok_of {P : Program} {w : World} {H' : Hp} {B h h'' : Heap} (ok : HOk P w H' h) (dom : ∀ b o, H' b = some o → ∃ ob, B.get? b = some ob) (k1 : B.StaysIn h) (k2 : B.StaysIn h'') : HOk P w H' h'' := fun a o e =>
  (ok a o e).stay (fun b u hb q => by
    have : ∃ o', H' b = some o' := by
      rcases hb with rfl | hb
      · exact ⟨_, e⟩
      · exact ⟨_, hb⟩
    obtain ⟨o', e'⟩ := this
    obtain ⟨ob, eb⟩ := dom b o' e'
    have := k1 b ob eb
    rw [q] at this
    cases this
    exact k2 b _ eb) (fun _ q => q) fun _ _ q => q
section
variable {P : Program} {w : World} {base B : Heap} {l : List PySem.Env} {H H' : Hp} {s s' : Shared} {C ea t : Addr} {h'' : Heap}
theorem Fly.on (f : Fly P w base B l H s C ea t H' s') (hf : Heap.FlyingW B l ea (.ref C) (.ref t) h'') (hu : s'.heap.UpToSlots h'') : Fly P w base B l H s C ea t H' { s' with heap := h'' } where
  os := f.os
  bare := f.bare
  un := by
    refine ⟨fun b o e n nf _ => hf.1 b o (f.kp b o e n nf), fun b o e n hb _ => ?_, f.un.free, fun b o e _ => ?_, f.un.tups, f.un.frzs, f.un.tbls⟩
    · obtain ⟨sl, e1⟩ := f.un.slot b o e n hb (by simp)
      obtain ⟨_, o', e2, nd⟩ := f.fly.2.2.1.mem hb
      have z : some { o with slots := sl } = some o' := e1.symm.trans e2
      cases z
      obtain ⟨sl', e4⟩ := hu b { o with slots := sl } e1 nd
      exact ⟨sl', e4⟩
    · by_cases hb : b ∈ frs l
      · obtain ⟨_, o', e2, nd⟩ := f.fly.2.2.1.mem hb
        obtain ⟨sl, e3⟩ := hu b _ e2 nd
        exact ⟨_, e3⟩
      · obtain ⟨o', e1⟩ := f.th b o e hb
        exact ⟨_, hf.1 b o' e1⟩
  hok := hok_of f.hok f.dom f.fly.1 hf.1
  bb := f.bb
  dom := f.dom
  kp := f.kp
  th := f.th
  fly := hf
  new := f.new
end
section
variable {X : Cx} {pins : List (Addr × Obj)} {σ : St} {H H' : Hp} {s s' : Shared} {C ea t : Addr} {h'' B : Heap}
structure Cx.Plain (X : Cx) : Prop where
  ex : X.ex = []
  stk : X.stack = X.env :: X.outer
  frame : X.env.frame = some X.env.locals
theorem Cx.Plain.mem (p : X.Plain) {b : Addr} : b ∈ frs X.stack ↔ b = X.env.locals ∨ b ∈ frs X.outer := by
  rw [p.stk]
  unfold frs
  rw [List.filterMap_cons, p.frame]
  exact List.mem_cons
theorem Inv.old (I : Inv X pins σ H s) {b : Addr} {o : Obj} (e : X.s₀.heap.get? b = some o) : b ≠ X.env.locals := Nat.ne_of_lt (Nat.lt_of_lt_of_le (Heap.lt_size e) I.ok.above)
theorem Fly.out (p : X.Plain) (I : Inv X pins σ H s) (f : Fly X.prog X.w X.base B X.stack H s C ea t H' s') (hf : Heap.FlyingW B X.outer ea (.ref C) (.ref t) h'') (hu : s'.heap.UpToSlots h'') : Fly X.prog X.w X.base B X.outer X.H₀ X.s₀ C ea t H' { s' with heap := h'' } := by
  have hex : ∀ b, b ∉ X.ex := fun b => by rw [p.ex]; simp
  have nst : ∀ b o, X.s₀.heap.get? b = some o → b ∉ frs X.outer → b ∉ frs X.stack := fun b o e nf z => (p.mem.mp z).elim (I.old e) nf
  have kp : ∀ b ob, X.s₀.heap.get? b = some ob → X.H₀ b = none → b ∉ frs X.outer → B.get? b = some ob := fun b o e n nf => f.kp b o (I.base.keep b o e n nf (hex b)) (I.base.free b o e n (hex b)) (nst b o e nf)
  have th : ∀ b ob, X.s₀.heap.get? b = some ob → b ∉ frs X.outer → ∃ o', B.get? b = some o' := fun b o e nf => by
    obtain ⟨o1, e1⟩ := I.base.there b o e (hex b)
    exact f.th b o1 e1 (nst b o e nf)
  refine ⟨f.os.trans I.os, f.bare, ⟨fun b o e n nf _ => hf.1 b o (kp b o e n nf), fun b o e n hb _ => ?_, fun b o e n _ => ?_, fun b o e _ => ?_, fun b xs e => f.un.tups b xs (I.base.tups b xs e), fun b o u e => f.un.frzs b o u (I.base.frzs b o u e), fun b ps e => ?_⟩, hok_of f.hok f.dom f.fly.1 hf.1, f.bb, f.dom, kp, th, hf, ?_⟩
  · obtain ⟨sl, e1⟩ := I.base.slot b o e n hb (hex b)
    obtain ⟨sl2, e2⟩ := f.un.slot b _ e1 (I.base.free b o e n (hex b)) (p.mem.mpr (.inr hb)) (by simp)
    obtain ⟨_, o', e3, nd⟩ := f.fly.2.2.1.mem (p.mem.mpr (.inr hb))
    have z := e2.symm.trans e3
    cases z
    obtain ⟨sl', e4⟩ := hu b { o with slots := sl2 } e2 nd
    exact ⟨sl', e4⟩
  · obtain ⟨sl, e1⟩ := I.base.any e n (hex b)
    exact f.un.free b _ e1 (I.base.free b o e n (hex b)) (by simp)
  · by_cases hb : b ∈ frs X.outer
    · obtain ⟨_, o', e3, nd⟩ := f.fly.2.2.1.mem (p.mem.mpr (.inr hb))
      obtain ⟨sl, e4⟩ := hu b _ e3 nd
      exact ⟨_, e4⟩
    · obtain ⟨o', e1⟩ := th b o e hb
      exact ⟨_, hf.1 b o' e1⟩
  · obtain ⟨m1, e1⟩ := I.base.tbls b ps e
    obtain ⟨m2, e2⟩ := f.un.tbls b _ e1
    exact ⟨m1 ++ m2, by rw [e2, Array.append_assoc]⟩
  · cases q : X.s₀.heap.get? ea with
    | none => rfl
    | some o =>
      obtain ⟨o1, e1⟩ := I.base.there ea o q (hex ea)
      rw [f.new] at e1
      cases e1
theorem leave_made {M : Model} {E : Value → Shared → Prop} {h1 : Heap} {vs : List Value} {Q : Unit → Shared → Prop} (p : X.Plain) (I : Inv X pins σ H s) (hx : Heap.MadeExcOf s.heap h1 ea (.ref C) vs)
    (hQ : ∀ h' t B, Fly X.prog X.w X.base B X.outer X.H₀ X.s₀ C ea t H { s with heap := h' } → Q () { s with heap := h' }) : wpAny M X.A (leaving X.env (.ref ea)) Q E { s with heap := h1 } := by
  have hex : ∀ b, b ∉ X.ex := fun b => by rw [p.ex]; simp
  have hB : (hideAll s.heap (frs X.stack)).StaysIn s.heap := fun b o q => of_hideAll _ q
  have inB : ∀ b o, s.heap.get? b = some o → b ∉ frs X.stack → (hideAll s.heap (frs X.stack)).get? b = some o := fun b o e n => hideAll_get _ e n
  have hfrm : s.heap.FunFrames (hideAll s.heap (frs X.stack)) X.stack := funFrames_hide I.stack fun env he a ha => List.mem_filterMap.mpr ⟨env, he, ha⟩
  refine wpAny_leaves_madeW (base := hideAll s.heap (frs X.stack)) (h := s.heap) (s := { s with heap := h1 }) (outer := X.outer) (env := X.env) (by rw [← p.stk]; exact I.ok.frames) p.frame hB (by rw [← p.stk]; exact hfrm) hx fun h' t x1 x2 x3 x4 => hQ h' t (hideAll s.heap (frs X.stack)) ?_
  have nst : ∀ b o, X.s₀.heap.get? b = some o → b ∉ frs X.outer → b ∉ frs X.stack := fun b o e nf z => (p.mem.mp z).elim (I.old e) nf
  have kp : ∀ b ob, X.s₀.heap.get? b = some ob → X.H₀ b = none → b ∉ frs X.outer → (hideAll s.heap (frs X.stack)).get? b = some ob := fun b o e n nf => inB b o (I.base.keep b o e n nf (hex b)) (nst b o e nf)
  have th : ∀ b ob, X.s₀.heap.get? b = some ob → b ∉ frs X.outer → ∃ o', (hideAll s.heap (frs X.stack)).get? b = some o' := fun b o e nf => by
    obtain ⟨o1, e1⟩ := I.base.there b o e (hex b)
    exact ⟨o1, inB b o1 e1 (nst b o e nf)⟩
  have dom : ∀ b o, H b = some o → ∃ ob, (hideAll s.heap (frs X.stack)).get? b = some ob := fun b o e => by
    obtain ⟨ob, eb⟩ := (I.hok b o e).there
    exact ⟨ob, inB b ob eb fun z => by rw [I.stkFree b z] at e; cases e⟩
  refine ⟨I.os, I.bare, ⟨fun b o e n nf _ => x1.1 b o (kp b o e n nf), fun b o e n hb _ => ?_, fun b o e n _ => I.base.free b o e n (hex b), fun b o e _ => ?_, I.base.tups, I.base.frzs, I.base.tbls⟩, hok_of I.hok dom hB x1.1, fun b o e => inB b o (I.bk b o e) fun z => ?_, dom, kp, th, x1, ?_⟩
  · obtain ⟨sl, e1⟩ := I.base.slot b o e n hb (hex b)
    obtain ⟨_, o', e3, nd⟩ := I.stack.mem (p.mem.mpr (.inr hb))
    have z := e1.symm.trans e3
    cases z
    obtain ⟨sl', e4⟩ := x4 b { o with slots := sl } (hx.keeps b { o with slots := sl } e1) nd
    exact ⟨sl', e4⟩
  · by_cases hb : b ∈ frs X.outer
    · obtain ⟨_, o', e3, nd⟩ := I.stack.mem (p.mem.mpr (.inr hb))
      obtain ⟨sl, e4⟩ := x4 b _ (hx.keeps b _ e3) nd
      exact ⟨_, e4⟩
    · obtain ⟨o', e1⟩ := th b o e hb
      exact ⟨_, x1.1 b o' e1⟩
  · have := (I.stack.mem z).1
    rw [e] at this
    cases this
  · cases q : X.s₀.heap.get? ea with
    | none => rfl
    | some o =>
      obtain ⟨o1, e1⟩ := I.base.there ea o q (hex ea)
      rw [hx.new] at e1
      cases e1
end
noncomputable def CXE (P : Program) (w : World) (base : Heap) : CXT := fun outer H s E e s' => ∃ ea C t B H', e = .ref ea ∧ Fly P w base B outer H s C ea t H' s' ∧ E (.ref C) none H'
end L2
set_option Elab.async false
set_option linter.all false
set_option maxRecDepth 100000
set_option maxHeartbeats 4000000
namespace L2
open PySem PySem.Spec PyProof.Rows
structure ExcK (K : PySem.W.Frag) (mg : Str → Option Value) (x : Str) (C : Addr) : Prop where
  bound : mg x = some (.ref C)
  obj : ∃ (B newId initId : String) (bmB bm bs : List Value) (nm q : Str) (N : Addr) (hdct : Bool) (sn : List Str) (sub : List Value) (ab : Bool) (col : Option Bool) (dd : Option Addr) (k0 k1 k2 k3 k5 : Option Value) (mN : Str → Option Value),
    ExcBaseFacts B newId initId bmB ∧ bm.contains (.type "BaseException") = true ∧ mN "__init__" = none ∧ ∀ h : Heap, K.In h → h.get? C = some (excClassObj nm q C N bs bm hdct sn sub ab col dd k0 k1 k2 k3 k5 newId) ∧ h.Ns N mN ∧ OwnTail h bmB bm
section
variable {X : Cx} {pins : List (Addr × Obj)} {σ : St} {H : Hp} {s : Shared} {x : Str} {np cpos pos p : Pos} {e₀ : Expr} {es : List Expr} {ta : TA}
theorem ps_raise {C : Addr} {Ξ : St → Hp → Prop} (k : ExcK X.K X.mg x C) (hg : Gl X x) (hc : X.calm = true) (ha : PA X (e₀ :: es) ta)
    (hX : ∀ pins σ H s h1 e vs, Inv X pins σ H s → Heap.MadeExcOf s.heap h1 e (.ref C) vs → Ξ σ H → X.xe (.ref e) { s with heap := h1 })
    (hdb : (x == ("__debug__" : Str)) = false := by decide) (he : starEach (e₀ :: es) X.env = (false, eval e₀ X.env) :: starEach es X.env := by rfl) (hpl : (backTo cpos (starEach es X.env)).any (·.1) = false := by rfl) :
    PS X (.Raise (some (.Call (.Name x np) (e₀ :: es) [] cpos)) none pos) (fun D σ H => ta σ H fun vs H1 => vs.length ≤ sizeLine ∧ Ξ σ H1) := by
  intro pins s σ H D I h
  obtain ⟨B, newId, initId, bmB, bm, bs, nm, q, N, hdct, sn, sub, ab, col, dd, k0, k1, k2, k3, k5, mN, FB, hbase, hni, hob⟩ := k.obj
  refine wpAny_Raise_call_subT (C := C) (N := N) (nm := nm) (q := q) (bs := bs) (bm := bm) (hdct := hdct) (sn := sn) (sub := sub) (ab := ab) (col := col) (dd := dd) (k0 := k0) (k1 := k1) (k2 := k2) (k3 := k3) (k5 := k5) (mN := mN) FB hbase (I.ok.hd hc) (by rw [he]; show (false || (backTo cpos (starEach es X.env)).any (·.1)) = false; rw [hpl]; rfl) hni (ld_glob I hg k.bound ⟨rfl, ?_⟩ hdb)
  have h2 := ha cpos pins s σ H _ I h
  rw [he] at h2 ⊢
  refine Calls.evalArgs_plain (wpAny_mono h2 (fun us s2 z => ?_) fun _ _ y => y)
  obtain ⟨vs, H1, I1, r1, hl, hΞ⟩ := z
  obtain ⟨o1, o2, o3⟩ := hob s2.heap I1.kIn
  exact ⟨rfl, by rw [← r1.length]; exact hl, o1, o2, o3, fun h' e hm => hX pins σ H1 s2 h' e us I1 hm hΞ⟩
theorem call_two {k : Nat} {f : Addr} {fd : FuncData} {ps : List Str} {sp : Sp} {Q : VK} {E : XK} (F : FnOk X.prog X.w X.K X.mg X.base (CXE X.prog X.w X.base) k f fd ps sp) (hr : Room k X.A) (hg : Gl X x) (hm : X.mg x = some (.ref f)) (hk : PySem.W.keepIn X.K (.ref f) = true) (hb : Binds X.K fd ps [])
    (ha : PA X.nox (e₀ :: es) ta) (I : Inv X pins σ H s) (h : ta σ H fun vs H1 => sp vs H1 Q E) (hdb : (x == ("__debug__" : Str)) = false := by decide)
    (he : starEach (e₀ :: es) X.env = (false, eval e₀ X.env) :: starEach es X.env := by rfl) (hpl : (backTo pos (starEach es X.env)).any (·.1) = false := by rfl) :
    wpAny (model X.prog X.w) X.A (eval (.Call (.Name x p) (e₀ :: es) [] pos) X.env) (EP X pins σ Q) (fun e s' => ∃ s1 H1, Inv X pins σ H1 s1 ∧ CXE X.prog X.w X.base X.stack H1 s1 E e s') s := by
  refine wpAny_Call_Name_kw (ld_glob I hg hm ?_ hdb)
  refine PySem.W.callWith_K (K := X.K) (h₀ := X.base) I.ok.mod.kin hk (wpAny_mono (ha pos pins s σ H _ (I.wish _) h) (fun us s1 z => ?_) fun _ _ z => False.elim z) he hpl
  obtain ⟨vs, H1, I1, r, q⟩ := z
  have I1 := I1.unwish
  have hl : (us ++ []).length = ps.length := by rw [List.append_nil, ← r.length]; exact F.len _ _ _ _ q
  have hbb := hb s1 us I1.kIn hl
  rw [List.append_nil] at hbb
  refine ⟨I1.kIn, wpAny_call (codeAny_mono (F.run X.A X.stack s1 H1 ⟨us, []⟩ us vs Q E hr I1.env0 hbb r q) fun r s' hq => ?_)⟩
  cases r with
  | error e => exact ⟨s1, H1, I1, hq⟩
  | ok fl =>
    cases fl with
    | ret u => exact I1.after hq
    | next => exact False.elim hq
    | brk => exact False.elim hq
    | cont => exact False.elim hq
theorem unbind_ok {M : Model} {A : Around} {E : Value → Shared → Prop} {j : Nat} {n : Str} {Q : Unit → Shared → Prop} (I : Inv X pins σ H s) (hN : X.N.Nodup) (hj : X.N[j]? = some n) (hl : X.env.kindOf n = some .local)
    (h : ∀ s', Inv X pins (σ.set j none) H s' → Q () s') : wpAny M A (do bindName X.env n .none; unbindBehindTheSuite X.env n pos) Q E s := by
  obtain ⟨m, hn, hlo⟩ := id I.loc
  have hp : (X.env.scope.kind == .class || (X.env.scope.kind == .module && X.env.locals != X.env.globals)) = false := by rw [I.ok.kind]; rfl
  refine wpAny_bind (wpAny_bindName (wpAny_storeName_local hl hn (fun h₁ hn₁ hs₁ => ?_) hp))
  unfold unbindBehindTheSuite
  refine wpAny_onRaise ?_
  unfold unbindName
  refine wpAny_bind (wpAny_point (wpAny_bind ?_))
  unfold deleteName
  simp only [hl, hp]
  rw [if_neg (by decide)]
  refine wpAny_bind (wpAny_nsDel_keeps hn₁ fun h₂ v hn₂ hs₂ => ?_)
  simp only [if_true, Option.isSome_some, Bool.not_true, Bool.false_eq_true, if_false]
  refine wpAny_pure (wpAny_point (h _ ?_))
  have hs := hs₁.trans hs₂
  have hiσ : j < σ.length := by rw [I.len]; exact (List.getElem?_eq_some_iff.mp hj).1
  refine ⟨I.ok, I.os, I.bare, ⟨fun b o e n hb hx => ?_, fun b o e n hb hx => ?_, I.base.free, fun b o e hx => ?_, I.base.tups, I.base.frzs, I.base.tbls⟩, ⟨_, hn₂, fun i y v' e1 e2 e3 => ?_⟩, fun y c e => ?_, I.free, I.freeC, fun p hp => ?_, fun b ob e => ?_, by simpa using I.len⟩
  · exact (hs.2 b (I.old e)).trans (I.base.keep b o e n hb hx)
  · obtain ⟨sl, e1⟩ := I.base.slot b o e n hb hx
    exact ⟨sl, (hs.2 b (I.old e)).trans e1⟩
  · obtain ⟨o', e1⟩ := I.base.there b o e hx
    exact ⟨o', (hs.2 b (I.old e)).trans e1⟩
  · by_cases hij : i = j
    · subst hij
      rw [List.getElem?_set_self hiσ] at e2
      cases e2
    · rw [List.getElem?_set_ne (Ne.symm hij)] at e2
      obtain ⟨u', r', q⟩ := hlo i y v' e1 e2 e3
      refine ⟨u', r', ?_⟩
      rcases q with ⟨k, e⟩ | ⟨k, c, e, z⟩
      · refine .inl ⟨k, ?_⟩
        have : y ≠ n := fun e => hij (nodup_ix hN e1 (e ▸ hj))
        simp [this, e]
      · exact .inr ⟨k, c, e, z.sameBut hs (I.cne y c e)⟩
  · obtain ⟨w', z⟩ := I.cell y c e
    exact ⟨w', z.sameBut hs (I.cne y c e)⟩
  · obtain ⟨e, n, ne, nf, d⟩ := I.pin p hp
    exact ⟨(hs.2 p.1 ne).trans e, n, ne, nf, d⟩
  · refine (I.hok b ob e).stay (fun c w' hc q => (hs.2 c ?_).trans q) (fun _ q => q) fun _ _ q => q
    rintro rfl
    rcases hc with rfl | hc
    · rw [I.free] at e; cases e
    · rw [I.free] at hc; cases hc
end
end L2
set_option Elab.async false
set_option linter.all false
set_option maxRecDepth 100000
set_option maxHeartbeats 4000000
namespace L2
open PySem PySem.Spec PyProof.Rows
noncomputable def Cx.han (X : Cx) (ea : Addr) : Cx := { X with A := X.A.mark (some (.ref ea)), calm := false, xe := fun _ _ => False }
section
variable {X : Cx} {pins : List (Addr × Obj)} {σ : St} {H H' : Hp} {s s' : Shared} {C ea t : Addr} {B h'' : Heap}
theorem Cx.Ok.han (ok : X.Ok) (ea : Addr) : (X.han ea).Ok :=
  ⟨ok.mod, ok.kind, ok.glob, ok.blt, ok.above, ok.inj, ok.has, ok.cab, fun z => (Bool.noConfusion z), ok.frames, ok.stk, ok.exf, ok.bs, ok.bsz, ok.noex, ok.exfs, ok.funs, ok.frf⟩
theorem Cx.Ok.unhan (ok : (X.han ea).Ok) (ok0 : X.Ok) : X.Ok := ok0
theorem Inv.han (I : Inv X pins σ H s) (ea : Addr) : Inv (X.han ea) pins σ H s := ⟨I.ok.han ea, I.os, I.bare, I.base, I.loc, I.cell, I.free, I.freeC, I.pin, I.hok, I.len⟩
theorem Inv.unhan (ok : X.Ok) (I : Inv (X.han ea) pins σ H s) : Inv X pins σ H s := ⟨ok, I.os, I.bare, I.base, I.loc, I.cell, I.free, I.freeC, I.pin, I.hok, I.len⟩
theorem Fly.landed (I : Inv X pins σ H s) (f : Fly X.prog X.w X.base B X.stack H s C ea t H' s') : ∃ (ob : Obj) (φ : Heap → Prop), ob.cls = .ref C ∧ H' ea = none ∧ Inv X pins σ (upd H' ea (.frz ob (.ext φ))) s' := by
  obtain ⟨ob, e, hc⟩ := f.fly.there
  have hn : H' ea = none := by
    cases q : H' ea with
    | none => rfl
    | some o =>
      obtain ⟨o1, e1⟩ := f.dom ea o q
      rw [f.fly.2.1] at e1
      cases e1
  refine ⟨ob, fun h => h.get? ea = some ob, hc, hn, I.call' (ch := []) f.os ?_ ?_ f.bare fun b z => nomatch z⟩
  · refine ⟨f.un.keep, f.un.slot, fun b o e1 n hx => ?_, f.un.there, fun b xs e1 => ?_, fun b o u e1 => ?_, fun b ps e1 => ?_⟩
    · rw [upd_ne (fun z => by rw [z, f.new] at e1; cases e1)]
      exact f.un.free b o e1 n hx
    · have := f.un.tups b xs e1
      rw [upd_ne (fun z => by rw [z, hn] at this; cases this)]; exact this
    · have := f.un.frzs b o u e1
      rw [upd_ne (fun z => by rw [z, hn] at this; cases this)]; exact this
    · obtain ⟨more, this⟩ := f.un.tbls b ps e1
      exact ⟨more, by rw [upd_ne (fun z => by rw [z, hn] at this; cases this)]; exact this⟩
  · intro a o e1
    by_cases ha : a = ea
    · subst ha
      rw [upd_same] at e1
      cases e1
      exact ⟨e, e, ⟨ob, e⟩, fun h1 h2 z k => k ob z⟩
    · rw [upd_ne ha] at e1
      refine (f.hok a o e1).stay (fun b u _ q => q) (fun b q => ?_) (fun b xs q => ?_) fun b u v _ q _ => ?_
      · rw [upd_ne (fun z => by rw [z, hn] at q; cases q)]; exact q
      · rw [upd_ne (fun z => by rw [z, hn] at q; cases q)]; exact q
      · rw [upd_ne (fun z => by rw [z, hn] at q; cases q)]; exact q
variable {cx n : Str} {np pos hpos : Pos} {b₀ : Stmt} {suite body : List Stmt} {j : Nat} {C0 : Addr} {th : TS}
noncomputable def Ends.un (D : Ends) (j : Nat) : Ends := { nx := fun σ' H'' => D.nx (σ'.set j none) H'', rt := D.rt, bk := fun σ' H'' => D.bk (σ'.set j none) H'', ct := fun σ' H'' => D.ct (σ'.set j none) H'' }
theorem catch_it {D : Ends} (p : X.Plain) (I : Inv X pins σ H s) (f : Fly X.prog X.w X.base B X.stack H s C ea t H' s') (hcx : X.mg cx = some (.ref C0)) (hg : Gl X cx) (hm : PySem.W.exmOne X.K (.ref C) (.ref C0) = some true)
    (hN : X.N.Nodup) (hj : X.N[j]? = some n) (hl : X.env.kindOf n = some .local) (hlo : X.env.scope.names.lookup n = some .local) (hh : PSs (X.han ea) (b₀ :: suite) th)
    (hw : ∀ (ob : Obj) (φ : Heap → Prop), ob.cls = .ref C → H' ea = none → th (D.un j) (σ.set j (some (.ref ea))) (upd H' ea (.frz ob (.ext φ)))) (hdb : (cx == ("__debug__" : Str)) = false := by decide) :
    wpAny (model X.prog X.w) X.A (noteFrame (.ref ea) X.env) (fun _ s₂ => wpAny (model X.prog X.w) X.A (setFlight (.ref ea) none) (fun _ s₃ => wpAny (model X.prog X.w) X.A (handleBy (.ref ea) X.env [.ExceptHandler (some (.Name cx np)) (some n) (b₀ :: suite) hpos]) (SP X pins D) X.xe s₃) X.xe s₂) X.xe s' := by
  have hfr : X.A.frames = some (X.env :: X.outer) := by rw [← p.stk]; exact I.ok.frames
  have fl := f.fly
  have fl' : Heap.FlyingW B (X.env :: X.outer) ea (.ref C) (.ref t) s'.heap := by rw [← p.stk]; exact fl
  refine wpAny_looks_onW hfr p.frame fl' fun h₄ hheld hsm₄ => ?_
  refine wpAny_landsW hheld fun h₅ hfl5 hsm5 => ?_
  have f5 := f.on (by rw [p.stk]; exact hfl5) (hsm₄.trans hsm5)
  refine wpAny_handleBy_cons (codeAny_handlers_test ?_) (by intro q; cases q)
  obtain ⟨ob5, φ5, hc5, hn5, I5⟩ := f5.landed I
  have I5h := I5.han ea
  refine ld_glob (X := X.han ea) I5h hg hcx ?_ hdb
  obtain ⟨oe, eoe, hoe⟩ := f5.fly.there
  have LT : PySem.W.Looks (model X.prog X.w) h₅ (typeOf (.ref ea)) (.ref C) := by
    rw [← hoe]
    exact (PySem.W.Looks.ld eoe).andThen .now
  refine (PySem.W.exm_one (M := model X.prog X.w) I5.kIn LT hm).at ?_
  refine codeAny_handlers_suite_as ?_
  refine lands_againW hfl5 fun h₆ hfl6 hsm6 => ?_
  have f6 := f5.on (by rw [p.stk]; exact hfl6) hsm6
  obtain ⟨ob, φ, hc, hn, I6⟩ := f6.landed I
  refine store_ok I6 hN hj (.inl hlo) (v := .ref ea) rfl (fun s7 I7 => ?_) (.inr hlo)
  refine wpAny_mono (hh pins s7 _ _ (D.un j) (I7.han ea) (hw ob φ hc hn)) (fun fl s8 q => ?_) fun _ _ z => False.elim z
  cases fl with
  | next =>
    obtain ⟨σ', H'', J, q⟩ := q
    exact unbind_ok (J.unhan I.ok) hN hj hl fun s9 I9 => ⟨_, _, I9, q⟩
  | brk =>
    obtain ⟨σ', H'', J, q⟩ := q
    exact unbind_ok (J.unhan I.ok) hN hj hl fun s9 I9 => ⟨_, _, I9, q⟩
  | cont =>
    obtain ⟨σ', H'', J, q⟩ := q
    exact unbind_ok (J.unhan I.ok) hN hj hl fun s9 I9 => ⟨_, _, I9, q⟩
  | ret u =>
    obtain ⟨v, σ', H'', J, r, q⟩ := q
    exact unbind_ok (J.unhan I.ok) hN hj hl fun s9 I9 => ⟨v, _, _, I9, r, q⟩
noncomputable def Tries (X : Cx) (body : List Stmt) (tb : Ends → XK → St → Hp → Prop) : Prop := ∀ (pins : List (Addr × Obj)) (s : Shared) (σ : St) (H : Hp) (D : Ends) (E : XK), Inv X pins σ H s → tb D E σ H →
  wpAny (model X.prog X.w) X.A (execs body X.env) (SP X pins D) (fun e s' => ∃ s1 H1, Inv X pins σ H1 s1 ∧ CXE X.prog X.w X.base X.stack H1 s1 E e s') s
theorem ps_try {tb : Ends → XK → St → Hp → Prop} (p : X.Plain) (hb : Tries X body tb) (hcx : X.mg cx = some (.ref C0)) (hg : Gl X cx) (hN : X.N.Nodup) (hj : X.N[j]? = some n) (hl : X.env.kindOf n = some .local) (hlo : X.env.scope.names.lookup n = some .local)
    (hh : ∀ ea, PSs (X.han ea) (b₀ :: suite) th) (hdb : (cx == ("__debug__" : Str)) = false := by decide) :
    PS X (.Try body [.ExceptHandler (some (.Name cx np)) (some n) (b₀ :: suite) hpos] [] [] pos) (fun D σ H => tb D (fun c _ H' => ∃ C, c = .ref C ∧ PySem.W.exmOne X.K (.ref C) (.ref C0) = some true ∧ ∀ (ea : Addr) (ob : Obj) (φ : Heap → Prop), ob.cls = .ref C → H' ea = none → th (D.un j) (σ.set j (some (.ref ea))) (upd H' ea (.frz ob (.ext φ)))) σ H) := by
  intro pins s σ H D I h
  refine wpAny_Try_except (wpAny_mono (hb pins s σ H D _ I h) (fun fl s1 q => ?_) fun e s' z => ?_)
  · cases fl with
    | next => exact wpAny_execs_nil q
    | brk => exact q
    | cont => exact q
    | ret u => exact q
  · obtain ⟨s1, H1, I1, ea, C, t, B, H', rfl, f, C', e, hm, hw⟩ := z
    cases e
    exact catch_it p I1 f hcx hg hm hN hj hl hlo (hh ea) (fun ob φ h1 h2 => hw ea ob φ h1 h2) hdb
theorem tries_set {k : Nat} {f : Addr} {fd : FuncData} {ps : List Str} {sp : Sp} {x y : Str} {i : Nat} {e₀ : Expr} {es : List Expr} {ta : TA} {px p cpos : Pos} (F : FnOk X.prog X.w X.K X.mg X.base (CXE X.prog X.w X.base) k f fd ps sp) (hr : Room k X.A) (hg : Gl X x) (hm : X.mg x = some (.ref f)) (hk : PySem.W.keepIn X.K (.ref f) = true) (hb : Binds X.K fd ps [])
    (ha : PA X.nox (e₀ :: es) ta) (hN : X.N.Nodup) (hi : X.N[i]? = some y) (hy : Loc X.env.scope y) (hs : swapsWith (.Call (.Name x p) (e₀ :: es) [] cpos) (some (.Name y px)) pos.line X.env = pure false := by rfl) (hf : X.fn y = true ∨ X.env.scope.names.lookup y = some .local := by first | exact .inl rfl | exact .inr rfl | assumption) (hdb : (x == ("__debug__" : Str)) = false := by decide)
    (he : starEach (e₀ :: es) X.env = (false, eval e₀ X.env) :: starEach es X.env := by rfl) (hpl : (backTo cpos (starEach es X.env)).any (·.1) = false := by rfl) :
    Tries X [.Assign [.Name y px] (.Call (.Name x p) (e₀ :: es) [] cpos) pos] (fun D E σ H => ta σ H fun vs H1 => sp vs H1 (fun v H2 => D.nx (σ.set i (some v)) H2) E) := by
  intro pins s σ H D E I h
  refine wpAny_execs_cons (wpAny_Assign_Name (wpAny_mono (call_two F hr hg hm hk hb ha I h hdb he hpl) (fun v s1 z => ?_) fun _ _ z => z) hs)
  obtain ⟨y1, H1, I1, r1, q1⟩ := z
  exact store_ok I1 hN hi hy r1 (fun s2 I2 => wpAny_execs_nil ⟨_, H1, I2, q1⟩) hf
end
end L2
set_option Elab.async false
set_option linter.all false
set_option maxRecDepth 100000
set_option maxHeartbeats 4000000
namespace L2
open PySem PySem.Spec PyProof.Rows
open PySem.W (findIn subIn mroIn clsIn Looks looks_findIn looks_subIn InstAt KitX)
structure ExcQ (K : PySem.W.Frag) (C : Addr) : Prop where
  ga : findIn K (.ref C) "__getattribute__" = some (some (.builtin "BaseException.__getattribute__"))
  gt : findIn K (.ref C) "__getattr__" = some none
  cl : findIn K (.ref C) "__class__" = some (some (.builtin "object.__class__"))
  so : subIn K (.ref C) (.type "object") = some true
  sb : subIn K (.ref C) (.type "BaseException") = some true
  kc : (clsIn K C).isSome = true
section
variable {prog : Program} {w : World} {A : Around} {E : Value → Shared → Prop} {h : Heap} {g : Array GenState} {d : Drawn} {t : Nat} {os : OsState} {a C : Addr} {o : Obj} {K : PySem.W.Frag} {Bx : String} {bmB : List Value}
theorem exc_check {M : Model} {nameV : Value} {Q : Unit → Shared → Prop} (X : K.In h) (q : ExcQ K C) (hx : h.get? a = some o) (hc : o.cls = .ref C) (hq : Q () ⟨h, g, d, t, os⟩) : wpAny M A (checkBuiltinCall "BaseException.__getattribute__" ⟨[.ref a, nameV], []⟩) Q E ⟨h, g, d, t, os⟩ := by
  have k1 : builtinKind "BaseException.__getattribute__" = some .slot := by decide +kernel
  have k2 : splitId "BaseException.__getattribute__" = some ("BaseException", "__getattribute__") := by decide +kernel
  have L1 := looks_subIn (M := M) X q.sb
  have ha := F.args_bexc_ga (.ref a) nameV
  simp only [checkBuiltinCall, k1, k2]
  refine wpAny_bind ?_
  unfold isInstance
  repeat (first | (with_reducible refine wpAny_loadPart_at hx ?_; rw [hc]) | with_reducible refine L1.at ?_ | wp_step)
  exact hq
theorem exc_get {R : Result → Shared → Prop} (X : K.In h) (q : ExcQ K C) (hx : h.get? a = some o) (hc : o.cls = .ref C) (hq : R (.ok (.ret (.ref C))) ⟨h, g, d, t, os⟩) :
    codeAny (model prog w) A (.call (.builtin "getset_descriptor.__get__") ⟨[.builtin "object.__class__", .ref a, .ref C], []⟩) R ⟨h, g, d, t, os⟩ := by
  have ty5 : (⟨h, g, d, t, os⟩ : Shared).TypeIs (.builtin "object.__class__") "getset_descriptor" := F.typeOf_object_class
  have L1 := looks_subIn (M := model prog w) X q.so
  rw [← F.owner_object_class] at L1
  refine codeAny_call_builtin F.slot_gs_get.plain F.entry_gs_get (F.slot_gs_get.check _ _ _ _ _ _ _ _ ty5 (F.args_gs_get _ _ _) ?_)
  repeat (any_goals (first | assumption | (with_reducible refine wpAny_loadPart_at hx ?_; rw [hc]) | with_reducible refine L1.at ?_ | wp_step))
  refine ⟨Code.quiet_builtin _ (by decide +kernel), codeAny_builtin F.entry_object_class ?_⟩
  repeat (any_goals (first | assumption | (with_reducible refine wpAny_loadPart_at hx ?_; rw [hc]) | wp_step))
theorem exc_entry {tk : Tok} {Q : Fin → Shared → Prop} (X : K.In h) (q : ExcQ K C) (hx : h.get? a = some o) (hc : o.cls = .ref C) (hq : Q (.done (.ret (.ref C))) ⟨h, g, d, t, os⟩) :
    wpAny (model prog w) A (Builtin.«object.__getattribute__» ⟨[.ref a, .str "__class__" tk], []⟩) Q E ⟨h, g, d, t, os⟩ := by
  have ty5 : (⟨h, g, d, t, os⟩ : Shared).TypeIs (.builtin "object.__class__") "getset_descriptor" := F.typeOf_object_class
  have f5 := F.typeOf_object_class
  have f6 := F.slot_gs_get.lookup
  have f7 := F.slot_gs_set.lookup
  have L1 := looks_findIn (M := model prog w) X q.cl
  repeat (any_goals (first | assumption | (with_reducible refine wpAny_loadPart_at hx ?_; rw [hc]) | with_reducible refine L1.at ?_ | wp_step))
  refine exc_get X q hx hc ?_
  repeat (any_goals (first | assumption | wp_step))
theorem exc_by {tk : Tok} {Q : Value → Shared → Prop} (FB : ExcAttrBase Bx bmB) (X : K.In h) (q : ExcQ K C) (hx : h.get? a = some o) (hc : o.cls = .ref C) (hq : Q (.ref C) ⟨h, g, d, t, os⟩) :
    wpAny (model prog w) A (getAttrBy (.ref a) (.str "__class__" tk) false) Q E ⟨h, g, d, t, os⟩ := by
  have f3 := FB.ga.bind (.ref a)
  have hx2 : (Value.builtin "BaseException.__getattribute__" == Value.builtin "object.__getattribute__") = false := by decide +kernel
  have hx1 : (onTheHeap (Value.ref C) && Value.builtin "BaseException.__getattribute__" == Value.builtin "object.__getattribute__") = false := by rw [hx2]; rfl
  have L1 := looks_findIn (M := model prog w) X q.ga
  have L2 := looks_findIn (M := model prog w) X q.gt
  repeat (any_goals (first | assumption | (with_reducible refine wpAny_loadPart_at hx ?_; rw [hc]) | with_reducible refine L1.at ?_ | with_reducible refine L2.at ?_ | wp_step))
  refine codeAny_call_builtin FB.ga.plain F.entry_bexc_ga (exc_check X q hx hc (exc_entry X q hx hc ?_))
  repeat (any_goals (first | assumption | wp_step))
theorem exc_class {Q : Option Value → Shared → Prop} (FB : ExcAttrBase Bx bmB) (X : K.In h) (q : ExcQ K C) (hx : h.get? a = some o) (hc : o.cls = .ref C) (hq : Q (some (.ref C)) ⟨h, g, d, t + 1, os⟩) : wpAny (model prog w) A (getAttr? (.ref a) "__class__") Q E ⟨h, g, d, t, os⟩ := by
  unfold getAttr? getAttrBy?
  repeat (any_goals (first | assumption | with_reducible apply exc_by FB X q hx hc | wp_step))
theorem kitx_exc (FB : ExcAttrBase Bx bmB) (q : ExcQ K C) : KitX K (.ref a) (.ref C) (fun h => h.get? a = some o ∧ o.cls = .ref C) where
  ty := fun M h X p => by
    rw [← p.2]
    exact (Looks.ld p.1).andThen .now
  it := fun M h X p => by
    have z := q.kc
    unfold clsIn at z
    split at z
    · rename_i c' d' cd' sl' ho
      intro A' Q' E' s' k qq
      unfold isType loadHead
      exact wpAny_bind (wpAny_loadPart (k _ _ (X _ _ ho)) (wpAny_pure qq))
    · cases z
  ne := fun h tp dd its n sl X htp => by
    refine Bool.eq_false_iff.mpr fun qq => ?_
    have e : C = tp := Value.ref.inj (beq_iff_eq.mp qq)
    subst e
    have z := q.kc
    unfold clsIn at z
    split at z
    · rename_i c' d' cd' sl' ho
      have y := (X _ _ ho).symm.trans htp
      cases y
    · cases z
  ca := fun {prog w A E Q s} X p k => by
    obtain ⟨h, g, d, t, os⟩ := s
    exact exc_class FB X q p.1 p.2 k
end
section
variable {X : Cx}
noncomputable def clsV : V → Option Value
  | .ref c => some (.ref c)
  | .ty n => some (.type n)
  | _ => none
theorem clsV_val {v : V} {u c : Value} (r : RelV v u) (h : clsV v = some c) : u = c := by
  cases v with
  | ref a => cases h; exact r
  | ty n => cases h; exact r
  | _ => cases h
theorem clsV_vals : ∀ {vs : List V} {us cs : List Value}, Vals vs us → vs.mapM clsV = some cs → us = cs
  | [], _, cs, .nil, h => by
    have : some ([] : List Value) = some cs := h
    cases this; rfl
  | v :: vs, _, cs, .cons r rs, h => by
    rw [List.mapM_cons] at h
    cases h1 : clsV v with
    | none => rw [h1] at h; cases h
    | some c =>
      rw [h1] at h
      cases h2 : vs.mapM clsV with
      | none => rw [h2] at h; cases h
      | some ds =>
        rw [h2] at h
        have : some (c :: ds) = some cs := h
        cases this
        rw [clsV_val r h1, clsV_vals rs h2]
theorem call_isx {Bx : String} {bmB : List Value} (FB : ExcAttrBase Bx bmB) : CallR X (.builtin "isinstance") (fun xs H Q => ∃ a o φ C v c b, xs = [.ref a, v] ∧ H a = some (.frz o (.ext φ)) ∧ o.cls = .ref C ∧ ExcQ X.K C ∧ clsV v = some c ∧ PySem.W.kitOne X.K (.ref C) c = some b ∧ Q (.bl b) H) := by
  intro pins s σ H xs us Q I r h
  obtain ⟨a, o, φ, C, v, c, b, rfl, ha, hc, q, hv, hk, hq⟩ := h
  obtain ⟨u, u2, rfl, ru, ru2⟩ := vals2 r
  cases ru
  rw [clsV_val ru2 hv]
  obtain ⟨e, _⟩ := I.hok a _ ha
  exact PySem.W.kia_one (kitx_exc FB q) I.kIn ⟨e, hc⟩ hk (by intro z; cases z) fun tk => ⟨.bl b, H, I.tok _, rfl, hq⟩
theorem call_isxT {Bx : String} {bmB : List Value} (FB : ExcAttrBase Bx bmB) : CallR X (.builtin "isinstance") (fun xs H Q => ∃ a o φ C tp vs cs b, xs = [.ref a, .ref tp] ∧ H a = some (.frz o (.ext φ)) ∧ o.cls = .ref C ∧ ExcQ X.K C ∧ H tp = some (.tup vs) ∧ vs.mapM clsV = some cs ∧ PySem.W.kitAny X.K (.ref C) cs = some b ∧ Q (.bl b) H) := by
  intro pins s σ H xs us Q I r h
  obtain ⟨a, o, φ, C, tp, vs, cs, b, rfl, ha, hc, q, ht, hv, hk, hq⟩ := h
  obtain ⟨u, u2, rfl, ru, ru2⟩ := vals2 r
  cases ru
  cases ru2
  obtain ⟨e, _⟩ := I.hok a _ ha
  obtain ⟨_, its, rv, ⟨oc, od, oda, osl⟩, eo, ec, n, edt⟩ := I.hok tp _ ht
  dsimp only at ec edt
  subst ec edt
  have := clsV_vals rv hv
  subst this
  exact PySem.W.kia_tup (kitx_exc FB q) I.kIn ⟨e, hc⟩ eo hk (by intro z; cases z) fun tk => ⟨.bl b, H, I.tok _, rfl, hq⟩
end
end L2
set_option Elab.async false
set_option linter.all false
set_option maxHeartbeats 4000000
namespace M
noncomputable def sp (m i : Nat) : Int × Int := if i < 4 * m then (((i / 4 : Nat) : Int), ((i % 4 : Nat) : Int)) else (-1, ((i - 4 * m : Nat) : Int))
noncomputable def addP (P : List (Int × List Nat)) (a : Int) (i : Nat) : List (Int × List Nat) :=
  if (P.any fun e => decide (e.1 = a)) = true then P.map (fun e => if e.1 = a then (e.1, e.2 ++ [i]) else e) else P ++ [(a, [i])]
noncomputable def plc (A : Nat → Int) (t : Nat) : List (Int × List Nat) := (List.range t).foldl (fun P i => addP P (A i) i) []
noncomputable def nx (m e i : Nat) : Nat := if i < 4 * m then 4 * (i / 4) + (i % 4 + 3) % 4 else 4 * m + (i - 4 * m + 1) % e
end M
set_option Elab.async false
set_option linter.all false
set_option maxRecDepth 100000
set_option maxHeartbeats 4000000
namespace L2
open PySem PySem.Spec PyProof.Rows
structure Lam where
  qual : Str
  args : Arguments
  body : Expr
  scope : Scope
  names : List Str
noncomputable abbrev anyO : HO := .ext fun _ => True
noncomputable abbrev Lam.obj (L : Lam) (cl : List (Str × Addr)) (pm : Value) (c' : Addr) (ctv : Value) : Obj := PySem.W.kla_obj "<lambda>" L.qual L.args L.body L.scope cl pm c' ctv
noncomputable def CloPre (H : Hp) (L : Lam) (a : Addr) (cl : List (Str × Addr)) : Prop :=
  ∃ (c' : Addr) (oc : Obj) (vs : Array Value) (t : Tok) (pm ctv : Value) (u : HO), H a = some (.frz (L.obj cl pm c' ctv) anyO) ∧ H c' = some (.frz oc u) ∧ oc.data = .fields vs ∧ vs[1]? = some (.str L.qual t)
noncomputable def CellsAt (H : Hp) : List (Str × Addr) → List V → Prop
  | [], [] => True
  | p :: cl, x :: xs => (∃ oo v, H p.2 = some (.frz oo anyO) ∧ oo.data = .cell (some v) ∧ RelV x v) ∧ CellsAt H cl xs
  | _, _ => False
noncomputable def CloAt (H : Hp) (L : Lam) (a : Addr) (xs : List V) : Prop :=
  ∃ cl : List (Str × Addr), CloPre H L a cl ∧ cl.map (·.1) = L.names ∧ (cl.map (·.2)).Nodup ∧ CellsAt H cl xs
section
variable {H H' : Hp} {L : Lam} {a : Addr} {cl : List (Str × Addr)} {xs : List V}
theorem CloPre.keeps (hi : ∀ b o u, H b = some (.frz o u) → H' b = some (.frz o u)) (x : CloPre H L a cl) : CloPre H' L a cl := by
  obtain ⟨c', oc, vs, t, pm, ctv, u, h1, h2, r⟩ := x
  exact ⟨c', oc, vs, t, pm, ctv, u, hi _ _ _ h1, hi _ _ _ h2, r⟩
theorem CellsAt.keeps (hi : ∀ b o u, H b = some (.frz o u) → H' b = some (.frz o u)) : ∀ {cl : List (Str × Addr)} {xs : List V}, CellsAt H cl xs → CellsAt H' cl xs
  | [], [], _ => trivial
  | p :: cl, x :: xs, ⟨⟨oo, v, h1, r⟩, q⟩ => ⟨⟨oo, v, hi _ _ _ h1, r⟩, CellsAt.keeps hi q⟩
  | [], _ :: _, h => h.elim
  | _ :: _, [], h => h.elim
theorem CloAt.keeps (hi : ∀ b o u, H b = some (.frz o u) → H' b = some (.frz o u)) (x : CloAt H L a xs) : CloAt H' L a xs := by
  obtain ⟨cl, h1, h2, h3, h4⟩ := x
  exact ⟨cl, h1.keeps hi, h2, h3, h4.keeps hi⟩
theorem CellsAt.mem : ∀ {cl : List (Str × Addr)} {xs : List V}, CellsAt H cl xs → ∀ p ∈ cl, ∃ oo v, H p.2 = some (.frz oo anyO) ∧ oo.data = .cell (some v)
  | p :: cl, x :: xs, ⟨⟨oo, v, h1, h2, _⟩, q⟩, p', h => by
    rcases List.mem_cons.mp h with rfl | h
    · exact ⟨oo, v, h1, h2⟩
    · exact CellsAt.mem q p' h
  | _ :: _, [], h, _, _ => h.elim
theorem CellsAt.length : ∀ {cl : List (Str × Addr)} {xs : List V}, CellsAt H cl xs → cl.length = xs.length
  | [], [], _ => rfl
  | p :: cl, x :: xs, ⟨_, q⟩ => by rw [List.length_cons, List.length_cons, CellsAt.length q]
  | [], _ :: _, h => h.elim
  | _ :: _, [], h => h.elim
theorem CellsAt.get : ∀ {cl : List (Str × Addr)} {xs : List V} {i : Nat} {x : V}, CellsAt H cl xs → xs[i]? = some x → ∃ p oo v, cl[i]? = some p ∧ H p.2 = some (.frz oo anyO) ∧ oo.data = .cell (some v) ∧ RelV x v
  | p :: cl, x :: xs, 0, y, ⟨⟨oo, v, h⟩, q⟩, e => by
    simp at e; subst e
    exact ⟨p, oo, v, by simp, h⟩
  | p :: cl, x :: xs, i + 1, y, ⟨_, q⟩, e => by
    obtain ⟨p', oo, v, h⟩ := CellsAt.get (i := i) q (by simpa using e)
    exact ⟨p', oo, v, by simpa using h⟩
  | [], [], _, _, _, e => by simp at e
  | [], _ :: _, _, _, h, _ => h.elim
  | _ :: _, [], _, _, h, _ => h.elim
end
noncomputable def AreCells (H : Hp) (cs : List Addr) : Prop := ∀ b ∈ cs, ∃ oo v, H b = some (.frz oo anyO) ∧ oo.data = .cell v
section
variable {P : Program} {w : World} {K : PySem.W.Frag} {mg : Str → Option Value} {base : Heap} {A : Around} {outer : List Env} {s s' : Shared} {H H2 : Hp} {cs : List Addr} {h : Heap}
theorem AreCells.out (c : AreCells H cs) {b : Addr} {o : HO} (e : H b = some o) (n : ∀ oo v, o = .frz oo anyO → oo.data = .cell v → False) : b ∉ cs := fun hb => by
  obtain ⟨oo, v, e1, e2⟩ := c b hb
  rw [e] at e1
  cases e1
  exact n oo v rfl e2
end
section
variable {P : Program} {w : World} {K : PySem.W.Frag} {mg : Str → Option Value} {base : Heap} {A : Around} {outer : List Env} {s s' : Shared} {H H2 : Hp} {cs : List Addr}
end
end L2
set_option Elab.async false
set_option linter.all false
set_option maxRecDepth 100000
set_option maxHeartbeats 4000000
namespace PV
open PySem PySem.Spec L2
inductive Ty where
  | int | bool | str | tuple | list | dict
  deriving DecidableEq
noncomputable def Ty.nm : Ty → String
  | .int => "int" | .bool => "bool" | .str => "str" | .tuple => "tuple" | .list => "list" | .dict => "dict"
inductive D where
  | non
  | bl (b : Bool)
  | int (i : Int)
  | str (x : Str)
  | tup (xs : List D)
  | lst (xs : List D)
  | dik (kvs : List (Key × D))
  | dit (kvs : List (List Key × D))
  | kls (xs : List D)
  | ty (t : Ty)
  | fdk (kvs : List (Key × D))
  | ftp (xs : List D)
  | fls (xs : List D)
  | fdt (kvs : List (List Key × D))
  /-- an exception, of the class by that name, with these attributes -/
  | obj (x : Str) (fs : List (Str × Int))
  /-- a lambda, and what it has taken with it -/
  | clo (L : Lam) (ds : List D)
noncomputable def imm : HO → Bool
  | .tup _ => true
  | .frz _ _ => true
  | _ => false
noncomputable def FzL (K : PySem.W.Frag) (H : Hp) (a : Addr) (xs : List V) : Prop :=
  (∃ o, H a = some (.frz o (.lst xs))) ∨
    ∃ (o : Obj) (its : Array Value) (n : Nat), K.lookup a = some o ∧ o.cls = .type "list" ∧ o.dict = none ∧ o.data = .seq its n ∧ its.size ≤ sizeLine ∧ Vals xs its.toList
theorem FzL.sq {K : PySem.W.Frag} {H : Hp} {a : Addr} {xs : List V} (h : FzL K H a xs) : SqL K H a xs := by
  rcases h with h | h
  · exact .inl (.inr h)
  · exact .inr h
mutual
/-- the value v is the datum d; F: the addresses of all lists and dicts in it, in their order -/
inductive Rep (K : PySem.W.Frag) (H : Hp) : D → V → List Addr → Prop
  | non : Rep K H .non .non []
  | bl (b : Bool) : Rep K H (.bl b) (.bl b) []
  | int (i : Int) : Rep K H (.int i) (.int i) []
  | str (x : Str) : Rep K H (.str x) (.str x) []
  | tup {a : Addr} {xs : List V} {ds : List D} {F : List Addr} (e : H a = some (.tup xs)) (r : Reps K H ds xs F) : Rep K H (.tup ds) (.ref a) F
  | lst {a : Addr} {xs : List V} {ds : List D} {F : List Addr} (e : H a = some (.lst xs)) (r : Reps K H ds xs F) : Rep K H (.lst ds) (.ref a) (a :: F)
  | dik {a : Addr} {kvs : List (Key × V)} {ds : List (Key × D)} {F : List Addr} (e : H a = some (.dK kvs)) (r : RepK K H ds kvs F) : Rep K H (.dik ds) (.ref a) (a :: F)
  | dit {a : Addr} {kvs : List (List Key × V)} {ds : List (List Key × D)} {F : List Addr} (e : H a = some (.dT kvs)) (r : RepT K H ds kvs F) : Rep K H (.dit ds) (.ref a) (a :: F)
  | kls {a : Addr} {xs : List V} {ds : List D} (e : FzL K H a xs) (r : Reps K H ds xs []) : Rep K H (.kls ds) (.ref a) []
  | ty (t : Ty) : Rep K H (.ty t) (.ty t.nm) []
  | fdk {a : Addr} {o : Obj} {kvs : List (Key × V)} {ds : List (Key × D)} {F : List Addr} (e : H a = some (.frz o (.dK kvs))) (r : RepK K H ds kvs F) : Rep K H (.fdk ds) (.ref a) F
  | ftp {a : Addr} {o : Obj} {xs : List V} {ds : List D} (e : H a = some (.frz o (.tup xs))) (hd : o.dict = none) (r : Reps K H ds xs []) : Rep K H (.ftp ds) (.ref a) []
  | fls {a : Addr} {o : Obj} {xs : List V} {ds : List D} (e : H a = some (.frz o (.lst xs))) (r : Reps K H ds xs []) : Rep K H (.fls ds) (.ref a) []
  | fdt {a : Addr} {o : Obj} {kvs : List (List Key × V)} {ds : List (List Key × D)} {F : List Addr} (e : H a = some (.frz o (.dT kvs))) (r : RepT K H ds kvs F) : Rep K H (.fdt ds) (.ref a) F
  | obj {a : Addr} {x : Str} {o : Obj} {φ : Heap → Prop} {fs : List (Str × Int)} (e : H a = some (.frz o (.ext φ))) (hc : ∃ C, o.cls = .ref C ∧ PySem.W.nsIn K mainGlobals x = some (some (.ref C))) (hf : fs = [] ∨ ∃ dx od, o.dict = some dx ∧ H dx = some (.frz od (.xd (fs.map fun p => (p.1, V.int p.2))))) : Rep K H (.obj x fs) (.ref a) []
  | clo {a : Addr} {L : Lam} {xs : List V} {ds : List D} {F : List Addr} (e : CloAt H L a xs) (r : Reps K H ds xs F) : Rep K H (.clo L ds) (.ref a) F
inductive Reps (K : PySem.W.Frag) (H : Hp) : List D → List V → List Addr → Prop
  | nil : Reps K H [] [] []
  | cons {d : D} {v : V} {ds : List D} {vs : List V} {F G : List Addr} (h : Rep K H d v F) (r : Reps K H ds vs G) : Reps K H (d :: ds) (v :: vs) (F ++ G)
inductive RepK (K : PySem.W.Frag) (H : Hp) : List (Key × D) → List (Key × V) → List Addr → Prop
  | nil : RepK K H [] [] []
  | cons {k : Key} {d : D} {v : V} {ds : List (Key × D)} {vs : List (Key × V)} {F G : List Addr} (h : Rep K H d v F) (r : RepK K H ds vs G) : RepK K H ((k, d) :: ds) ((k, v) :: vs) (F ++ G)
inductive RepT (K : PySem.W.Frag) (H : Hp) : List (List Key × D) → List (List Key × V) → List Addr → Prop
  | nil : RepT K H [] [] []
  | cons {k : List Key} {d : D} {v : V} {ds : List (List Key × D)} {vs : List (List Key × V)} {F G : List Addr} (h : Rep K H d v F) (r : RepT K H ds vs G) : RepT K H ((k, d) :: ds) ((k, v) :: vs) (F ++ G)
end
noncomputable def ImmK (H H' : Hp) : Prop := ∀ b ob, H b = some ob → imm ob = true → H' b = some ob
theorem ImmK.fzL {K : PySem.W.Frag} {H H' : Hp} (hi : ImmK H H') {a : Addr} {xs : List V} (e : FzL K H a xs) : FzL K H' a xs := by
  rcases e with ⟨o, e⟩ | e
  · exact .inl ⟨o, hi _ _ e rfl⟩
  · exact .inr e
theorem Rep.frame {K : PySem.W.Frag} {H H' : Hp} (hi : ImmK H H') {d : D} {v : V} {F : List Addr} (r : Rep K H d v F) : (∀ a ∈ F, H' a = H a) → Rep K H' d v F := by
  refine Rep.rec (motive_1 := fun d v F _ => (∀ a ∈ F, H' a = H a) → Rep K H' d v F) (motive_2 := fun d v F _ => (∀ a ∈ F, H' a = H a) → Reps K H' d v F) (motive_3 := fun d v F _ => (∀ a ∈ F, H' a = H a) → RepK K H' d v F) (motive_4 := fun d v F _ => (∀ a ∈ F, H' a = H a) → RepT K H' d v F) ?_ ?_ ?_ ?_ ?_ ?_ ?_ ?_ ?_ ?_ ?_ ?_ ?_ ?_ ?_ ?_ ?_ ?_ ?_ ?_ ?_ ?_ r
  · exact fun _ => .non
  · exact fun b _ => .bl b
  · exact fun b _ => .int b
  · exact fun b _ => .str b
  · exact fun e _ ih k => .tup (hi _ _ e rfl) (ih k)
  · exact fun e _ ih k => .lst ((k _ (List.mem_cons_self)).trans e) (ih fun a h => k a (List.mem_cons_of_mem _ h))
  · exact fun e _ ih k => .dik ((k _ (List.mem_cons_self)).trans e) (ih fun a h => k a (List.mem_cons_of_mem _ h))
  · exact fun e _ ih k => .dit ((k _ (List.mem_cons_self)).trans e) (ih fun a h => k a (List.mem_cons_of_mem _ h))
  · exact fun e _ ih k => .kls (hi.fzL e) (ih k)
  · exact fun t _ => .ty t
  · exact fun e _ ih k => .fdk (hi _ _ e rfl) (ih k)
  · exact fun e hd _ ih k => .ftp (hi _ _ e rfl) hd (ih k)
  · exact fun e _ ih k => .fls (hi _ _ e rfl) (ih k)
  · exact fun e _ ih k => .fdt (hi _ _ e rfl) (ih k)
  · exact fun e hc hf _ => .obj (hi _ _ e rfl) hc (hf.imp id fun ⟨dx, od, h1, h2⟩ => ⟨dx, od, h1, hi _ _ h2 rfl⟩)
  · exact fun e _ ih k => .clo (e.keeps fun _ _ _ q => hi _ _ q rfl) (ih k)
  · exact fun _ => .nil
  · exact fun _ _ ih1 ih2 k => .cons (ih1 fun a q => k a (List.mem_append.mpr (.inl q))) (ih2 fun a q => k a (List.mem_append.mpr (.inr q)))
  · exact fun _ => .nil
  · exact fun _ _ ih1 ih2 k => .cons (ih1 fun a q => k a (List.mem_append.mpr (.inl q))) (ih2 fun a q => k a (List.mem_append.mpr (.inr q)))
  · exact fun _ => .nil
  · exact fun _ _ ih1 ih2 k => .cons (ih1 fun a q => k a (List.mem_append.mpr (.inl q))) (ih2 fun a q => k a (List.mem_append.mpr (.inr q)))
theorem Reps.frame {K : PySem.W.Frag} {H H' : Hp} (hi : ImmK H H') {d : List D} {v : List V} {F : List Addr} (r : Reps K H d v F) (k : ∀ a ∈ F, H' a = H a) : Reps K H' d v F := by
  induction d generalizing v F with
  | nil => cases r; exact .nil
  | cons d ds ih => cases r with | cons h r => exact .cons (Rep.frame hi h fun a q => k a (List.mem_append.mpr (.inl q))) (ih r fun a q => k a (List.mem_append.mpr (.inr q)))
theorem RepK.frame {K : PySem.W.Frag} {H H' : Hp} (hi : ImmK H H') {d : List (Key × D)} {v : List (Key × V)} {F : List Addr} (r : RepK K H d v F) (k : ∀ a ∈ F, H' a = H a) : RepK K H' d v F := by
  induction d generalizing v F with
  | nil => cases r; exact .nil
  | cons d ds ih => cases r with | cons h r => exact .cons (Rep.frame hi h fun a q => k a (List.mem_append.mpr (.inl q))) (ih r fun a q => k a (List.mem_append.mpr (.inr q)))
theorem RepT.frame {K : PySem.W.Frag} {H H' : Hp} (hi : ImmK H H') {d : List (List Key × D)} {v : List (List Key × V)} {F : List Addr} (r : RepT K H d v F) (k : ∀ a ∈ F, H' a = H a) : RepT K H' d v F := by
  induction d generalizing v F with
  | nil => cases r; exact .nil
  | cons d ds ih => cases r with | cons h r => exact .cons (Rep.frame hi h fun a q => k a (List.mem_append.mpr (.inl q))) (ih r fun a q => k a (List.mem_append.mpr (.inr q)))
theorem Rep.dom {K : PySem.W.Frag} {H : Hp} {d : D} {v : V} {F : List Addr} (r : Rep K H d v F) : ∀ a ∈ F, ∃ ob, H a = some ob ∧ imm ob = false := by
  have cn : ∀ {b : Addr} {F : List Addr} {ob : HO}, H b = some ob → imm ob = false → (∀ a ∈ F, ∃ ob, H a = some ob ∧ imm ob = false) → ∀ a ∈ b :: F, ∃ ob, H a = some ob ∧ imm ob = false := fun e hb ih a m => (List.mem_cons.mp m).elim (fun z => z ▸ ⟨_, e, hb⟩) (ih a)
  have ap : ∀ {F G : List Addr}, (∀ a ∈ F, ∃ ob, H a = some ob ∧ imm ob = false) → (∀ a ∈ G, ∃ ob, H a = some ob ∧ imm ob = false) → ∀ a ∈ F ++ G, ∃ ob, H a = some ob ∧ imm ob = false := fun ih1 ih2 a m => (List.mem_append.mp m).elim (ih1 a) (ih2 a)
  have no : ∀ a ∈ ([] : List Addr), ∃ ob, H a = some ob ∧ imm ob = false := fun _ m => nomatch m
  refine Rep.rec (motive_1 := fun _ _ F _ => ∀ a ∈ F, ∃ ob, H a = some ob ∧ imm ob = false) (motive_2 := fun _ _ F _ => ∀ a ∈ F, ∃ ob, H a = some ob ∧ imm ob = false) (motive_3 := fun _ _ F _ => ∀ a ∈ F, ∃ ob, H a = some ob ∧ imm ob = false) (motive_4 := fun _ _ F _ => ∀ a ∈ F, ∃ ob, H a = some ob ∧ imm ob = false) no (fun _ => no) (fun _ => no) (fun _ => no) (fun _ _ ih => ih) (fun e _ ih => cn e rfl ih) (fun e _ ih => cn e rfl ih) (fun e _ ih => cn e rfl ih) (fun _ _ _ => no) (fun _ => no) (fun _ _ ih => ih) (fun _ _ _ _ => no) (fun _ _ _ => no) (fun _ _ ih => ih) (fun _ _ _ => no) (fun _ _ ih => ih) no (fun _ _ => ap) no (fun _ _ => ap) no (fun _ _ => ap) r
theorem Reps.dom {K : PySem.W.Frag} {H : Hp} {d : List D} {v : List V} {F : List Addr} (r : Reps K H d v F) : ∀ a ∈ F, ∃ ob, H a = some ob ∧ imm ob = false := by
  induction d generalizing v F with
  | nil => cases r; exact fun _ m => nomatch m
  | cons d ds ih => cases r with | cons h r => exact fun a m => (List.mem_append.mp m).elim (Rep.dom h a) (ih r a)
theorem RepK.dom {K : PySem.W.Frag} {H : Hp} {d : List (Key × D)} {v : List (Key × V)} {F : List Addr} (r : RepK K H d v F) : ∀ a ∈ F, ∃ ob, H a = some ob ∧ imm ob = false := by
  induction d generalizing v F with
  | nil => cases r; exact fun _ m => nomatch m
  | cons d ds ih => cases r with | cons h r => exact fun a m => (List.mem_append.mp m).elim (Rep.dom h a) (ih r a)
theorem RepT.dom {K : PySem.W.Frag} {H : Hp} {d : List (List Key × D)} {v : List (List Key × V)} {F : List Addr} (r : RepT K H d v F) : ∀ a ∈ F, ∃ ob, H a = some ob ∧ imm ob = false := by
  induction d generalizing v F with
  | nil => cases r; exact fun _ m => nomatch m
  | cons d ds ih => cases r with | cons h r => exact fun a m => (List.mem_append.mp m).elim (Rep.dom h a) (ih r a)
mutual
noncomputable def D.pure : D → Bool
  | .tup xs => pureL xs
  | .lst _ => false
  | .dik _ => false
  | .dit _ => false
  | .kls _ => false
  | .non => true
  | .bl _ => true
  | .int _ => true
  | .str _ => true
  | .ty _ => true
  | .fdk _ => false
  | .ftp _ => true
  | .fls _ => true
  | .fdt _ => false
  | .obj _ _ => true
  | .clo _ _ => false
noncomputable def pureL : List D → Bool
  | [] => true
  | d :: r => d.pure && pureL r
end
theorem pureL_iff {xs : List D} : pureL xs = true ↔ ∀ x ∈ xs, x.pure = true := by
  induction xs with
  | nil => simp [pureL]
  | cons d r ih => simp only [pureL, Bool.and_eq_true, ih, List.mem_cons, forall_eq_or_imp]
theorem Rep.pure {K : PySem.W.Frag} {H : Hp} {d : D} {v : V} {F : List Addr} (r : Rep K H d v F) : d.pure = true → F = [] ∧ Rep K H d v [] := by
  have no : ∀ {P : Prop} {b : Bool}, b = false → b = true → P := fun h h' => absurd (h.symm.trans h') (by simp)
  refine Rep.rec (motive_1 := fun d v F _ => d.pure = true → F = [] ∧ Rep K H d v []) (motive_2 := fun d v F _ => pureL d = true → F = [] ∧ Reps K H d v []) (motive_3 := fun _ _ _ _ => True) (motive_4 := fun _ _ _ _ => True) ?_ ?_ ?_ ?_ ?_ ?_ ?_ ?_ ?_ ?_ ?_ ?_ ?_ ?_ ?_ ?_ ?_ ?_ trivial (fun _ _ _ _ => trivial) trivial (fun _ _ _ _ => trivial) r
  · exact fun _ => ⟨rfl, .non⟩
  · exact fun b _ => ⟨rfl, .bl b⟩
  · exact fun b _ => ⟨rfl, .int b⟩
  · exact fun b _ => ⟨rfl, .str b⟩
  · exact fun e _ ih p => ⟨(ih (by rw [D.pure] at p; exact p)).1, .tup e (ih (by rw [D.pure] at p; exact p)).2⟩
  · exact fun _ _ _ => no (by rw [D.pure])
  · exact fun _ _ _ => no (by rw [D.pure])
  · exact fun _ _ _ => no (by rw [D.pure])
  · exact fun _ _ _ => no (by rw [D.pure])
  · exact fun b _ => ⟨rfl, .ty b⟩
  · exact fun _ _ _ => no (by rw [D.pure])
  · exact fun e hd r _ _ => ⟨rfl, .ftp e hd r⟩
  · exact fun e r _ _ => ⟨rfl, .fls e r⟩
  · exact fun _ _ _ => no (by rw [D.pure])
  · exact fun e hc hf _ => ⟨rfl, .obj e hc hf⟩
  · exact fun _ _ _ => no (by rw [D.pure])
  · exact fun _ => ⟨rfl, .nil⟩
  · intro _ _ _ _ _ _ _ _ ih1 ih2 p
    rw [pureL, Bool.and_eq_true] at p
    obtain ⟨e1, r1⟩ := ih1 p.1
    obtain ⟨e2, r2⟩ := ih2 p.2
    subst e1 e2
    exact ⟨rfl, .cons (F := []) (G := []) r1 r2⟩
theorem Reps.pure {K : PySem.W.Frag} {H : Hp} {d : List D} {v : List V} {F : List Addr} (r : Reps K H d v F) (p : pureL d = true) : F = [] ∧ Reps K H d v [] := by
  induction d generalizing v F with
  | nil => cases r; exact ⟨rfl, .nil⟩
  | cons d ds ih =>
    cases r with
    | cons h r =>
      rw [pureL, Bool.and_eq_true] at p
      obtain ⟨e1, r1⟩ := h.pure p.1
      obtain ⟨e2, r2⟩ := ih r p.2
      subst e1 e2
      exact ⟨rfl, .cons (F := []) (G := []) r1 r2⟩
section
variable {K : PySem.W.Frag} {H : Hp}
theorem Reps.length {ds : List D} {xs : List V} {F : List Addr} (r : Reps K H ds xs F) : xs.length = ds.length := by
  induction ds generalizing xs F with
  | nil => cases r; rfl
  | cons d ds ih => cases r with | cons h r => simp [ih r]
theorem Reps.append {ds es : List D} {xs ys : List V} {F G : List Addr} (r : Reps K H ds xs F) (q : Reps K H es ys G) : Reps K H (ds ++ es) (xs ++ ys) (F ++ G) := by
  induction ds generalizing xs F with
  | nil => cases r; exact q
  | cons d ds ih => cases r with | cons h r => rw [List.append_assoc]; exact .cons h (ih r)
theorem Reps.one {d : D} {x : V} {F : List Addr} (h : Rep K H d x F) : Reps K H [d] [x] F := by
  have := Reps.cons h (Reps.nil (K := K) (H := H))
  rwa [List.append_nil] at this
theorem Reps.snoc {ds : List D} {xs : List V} {d : D} {x : V} {F G : List Addr} (r : Reps K H ds xs F) (h : Rep K H d x G) : Reps K H (ds ++ [d]) (xs ++ [x]) (F ++ G) := r.append (.one h)
theorem Reps.split {ds : List D} {xs : List V} {F : List Addr} {i : Nat} {d : D} (r : Reps K H ds xs F) (h : ds[i]? = some d) :
    ∃ x A B C, xs[i]? = some x ∧ F = A ++ B ++ C ∧ Rep K H d x B ∧ Reps K H (ds.take i) (xs.take i) A ∧ Reps K H (ds.drop (i + 1)) (xs.drop (i + 1)) C := by
  induction ds generalizing xs F i with
  | nil => simp at h
  | cons e ds ih =>
    cases r with
    | @cons _ v _ vs F G p r =>
      cases i with
      | zero =>
        simp at h
        subst h
        exact ⟨v, [], F, G, rfl, by simp, p, .nil, by simpa using r⟩
      | succ i =>
        obtain ⟨x, A, B, C, h1, h2, h3, h4, h5⟩ := ih r (i := i) (by simpa using h)
        exact ⟨x, F ++ A, B, C, by simpa using h1, by rw [h2]; simp, h3, by simpa using Reps.cons p h4, by simpa using h5⟩
theorem Reps.get {ds : List D} {xs : List V} {F : List Addr} {i : Nat} {d : D} (r : Reps K H ds xs F) (h : ds[i]? = some d) : ∃ x B, xs[i]? = some x ∧ Rep K H d x B ∧ B.Sublist F := by
  obtain ⟨x, A, B, C, h1, h2, h3, _⟩ := r.split h
  exact ⟨x, B, h1, h3, h2 ▸ (List.sublist_append_right A B).trans (List.sublist_append_left _ C)⟩
theorem take_set_drop {α : Type} {l : List α} {i : Nat} {a : α} (h : i < l.length) : l.set i a = l.take i ++ a :: l.drop (i + 1) := by
  rw [List.set_eq_take_append_cons_drop, if_pos h]
theorem erase_td {α : Type} (l : List α) (i : Nat) : l.eraseIdx i = l.take i ++ l.drop (i + 1) := List.eraseIdx_eq_take_drop_succ l i
theorem Reps.take {ds : List D} {xs : List V} {F : List Addr} (i : Nat) (r : Reps K H ds xs F) : ∃ G, Reps K H (ds.take i) (xs.take i) G ∧ G.Sublist F := by
  induction ds generalizing xs F i with
  | nil => cases r; exact ⟨[], by simpa using Reps.nil, List.Sublist.slnil⟩
  | cons d ds ih =>
    cases r with
    | @cons _ v _ vs F G p r =>
      cases i with
      | zero => exact ⟨[], by simpa using Reps.nil, List.nil_sublist _⟩
      | succ i =>
        obtain ⟨G', q, s⟩ := ih i r
        exact ⟨F ++ G', by simpa using Reps.cons p q, List.Sublist.append (List.Sublist.refl _) s⟩
theorem Reps.drop {ds : List D} {xs : List V} {F : List Addr} (i : Nat) (r : Reps K H ds xs F) : ∃ G, Reps K H (ds.drop i) (xs.drop i) G ∧ G.Sublist F := by
  induction ds generalizing xs F i with
  | nil => cases r; exact ⟨[], by simpa using Reps.nil, List.Sublist.slnil⟩
  | cons d ds ih =>
    cases i with
    | zero => exact ⟨F, by simpa using r, List.Sublist.refl _⟩
    | succ i =>
      cases r with
      | @cons _ v _ vs F G p r =>
        obtain ⟨G', q, s⟩ := ih i r
        exact ⟨G', by simpa using q, s.trans (List.sublist_append_right _ _)⟩
theorem Reps.flat {ds : List D} (f : D → V) (hf : ∀ d ∈ ds, Rep K H d (f d) []) : Reps K H ds (ds.map f) [] := by
  induction ds with
  | nil => exact .nil
  | cons d ds ih => exact .cons (F := []) (G := []) (hf d List.mem_cons_self) (ih fun e he => hf e (List.mem_cons_of_mem _ he))
theorem Reps.ints (ns : List Int) : Reps K H (ns.map D.int) (ns.map V.int) [] := by
  induction ns with
  | nil => exact .nil
  | cons n ns ih => exact .cons (F := []) (G := []) (.int n) ih
theorem Reps.of_ints {ns : List Int} {xs : List V} {F : List Addr} (r : Reps K H (ns.map D.int) xs F) : xs = ns.map V.int ∧ F = [] := by
  induction ns generalizing xs F with
  | nil => cases r; exact ⟨rfl, rfl⟩
  | cons n ns ih =>
    cases r with
    | cons h r =>
      cases h
      obtain ⟨e1, e2⟩ := ih r
      exact ⟨by rw [e1]; rfl, by rw [e2]; rfl⟩
end
section
variable {K : PySem.W.Frag} {H : Hp} {v : V} {F : List Addr}
theorem Rep.iInt {i : Int} (r : Rep K H (.int i) v F) : v = .int i := by cases r; rfl
theorem Rep.iStr {i : Str} (r : Rep K H (.str i) v F) : v = .str i := by cases r; rfl
theorem Rep.iBl {i : Bool} (r : Rep K H (.bl i) v F) : v = .bl i := by cases r; rfl
theorem Rep.iTup {ds : List D} (r : Rep K H (.tup ds) v F) : ∃ a xs, v = .ref a ∧ H a = some (.tup xs) ∧ Reps K H ds xs F := by cases r with | tup e r => exact ⟨_, _, rfl, e, r⟩
theorem Rep.iLst {ds : List D} (r : Rep K H (.lst ds) v F) : ∃ a xs G, v = .ref a ∧ F = a :: G ∧ H a = some (.lst xs) ∧ Reps K H ds xs G := by cases r with | lst e r => exact ⟨_, _, _, rfl, rfl, e, r⟩
theorem Rep.iDik {ds : List (Key × D)} (r : Rep K H (.dik ds) v F) : ∃ a xs G, v = .ref a ∧ F = a :: G ∧ H a = some (.dK xs) ∧ RepK K H ds xs G := by cases r with | dik e r => exact ⟨_, _, _, rfl, rfl, e, r⟩
theorem Rep.iDit {ds : List (List Key × D)} (r : Rep K H (.dit ds) v F) : ∃ a xs G, v = .ref a ∧ F = a :: G ∧ H a = some (.dT xs) ∧ RepT K H ds xs G := by cases r with | dit e r => exact ⟨_, _, _, rfl, rfl, e, r⟩
theorem Rep.iKls {ds : List D} (r : Rep K H (.kls ds) v F) : ∃ a xs, v = .ref a ∧ F = [] ∧ FzL K H a xs ∧ Reps K H ds xs [] := by cases r with | kls e r => exact ⟨_, _, rfl, rfl, e, r⟩
theorem Rep.iFdk {ds : List (Key × D)} (r : Rep K H (.fdk ds) v F) : ∃ a o xs, v = .ref a ∧ H a = some (.frz o (.dK xs)) ∧ RepK K H ds xs F := by cases r with | fdk e r => exact ⟨_, _, _, rfl, e, r⟩
end
section
variable {κ : Type} [DecidableEq κ]
noncomputable def valD (kvs : List (κ × D)) (k : κ) : Option D := (kvs.find? fun kv => decide (kv.1 = k)).map (·.2)
noncomputable def putD (kvs : List (κ × D)) (k : κ) (v : D) : List (κ × D) :=
  if (kvs.any fun kv => decide (kv.1 = k)) = true then kvs.map (fun kv => if kv.1 = k then (kv.1, v) else kv) else kvs ++ [(k, v)]
noncomputable def dropD (kvs : List (κ × D)) (k : κ) : List (κ × D) := kvs.filter fun kv => decide (kv.1 ≠ k)
theorem valD_cons {p : κ × D} {r : List (κ × D)} {k : κ} : valD (p :: r) k = if p.1 = k then some p.2 else valD r k := by
  unfold valD
  by_cases h : p.1 = k
  · rw [List.find?_cons_of_pos (by simpa using h), if_pos h]; rfl
  · rw [List.find?_cons_of_neg (by simpa using h), if_neg h]
end
section
variable {K : PySem.W.Frag} {H : Hp}
theorem RepK.length {ds : List (Key × D)} {xs : List (Key × V)} {F : List Addr} (r : RepK K H ds xs F) : xs.length = ds.length := by
  induction ds generalizing xs F with
  | nil => cases r; rfl
  | cons d ds ih => cases r with | cons h r => simp [ih r]
theorem RepK.keys {ds : List (Key × D)} {xs : List (Key × V)} {F : List Addr} (r : RepK K H ds xs F) : xs.map (·.1) = ds.map (·.1) := by
  induction ds generalizing xs F with
  | nil => cases r; rfl
  | cons d ds ih => cases r with | cons h r => simp [ih r]
theorem RepK.val {ds : List (Key × D)} {xs : List (Key × V)} {F : List Addr} (r : RepK K H ds xs F) (k : Key) :
    (valD ds k = none ∧ valV xs k = none) ∨ ∃ d v B, valD ds k = some d ∧ valV xs k = some v ∧ Rep K H d v B ∧ B.Sublist F := by
  induction ds generalizing xs F with
  | nil => cases r; exact .inl ⟨rfl, rfl⟩
  | cons d ds ih =>
    cases r with
    | @cons j d v _ vs F G h r =>
      rw [valD_cons]
      by_cases e : j = k
      · rw [valV_pos e, if_pos e]
        exact .inr ⟨d, v, F, rfl, rfl, h, List.sublist_append_left _ _⟩
      · rw [valV_neg e, if_neg e]
        rcases ih r with q | ⟨d', v', B, h1, h2, h3, h4⟩
        · exact .inl q
        · exact .inr ⟨d', v', B, h1, h2, h3, h4.trans (List.sublist_append_right _ _)⟩
theorem RepK.append {ds es : List (Key × D)} {xs ys : List (Key × V)} {F G : List Addr} (r : RepK K H ds xs F) (q : RepK K H es ys G) : RepK K H (ds ++ es) (xs ++ ys) (F ++ G) := by
  induction ds generalizing xs F with
  | nil => cases r; exact q
  | cons d ds ih => cases r with | cons h r => rw [List.append_assoc]; exact .cons h (ih r)
theorem RepK.put {ds : List (Key × D)} {xs : List (Key × V)} {F : List Addr} {k : Key} {d : D} {v : V} (r : RepK K H ds xs F) (h : Rep K H d v []) : ∃ G, RepK K H (putD ds k d) (putK xs k v) G ∧ G.Sublist F := by
  have hk : (xs.any fun kv => decide (kv.1 = k)) = (ds.any fun kv => decide (kv.1 = k)) := by
    have e := r.keys
    rw [show (xs.any fun kv => decide (kv.1 = k)) = (xs.map (·.1)).any (fun j => decide (j = k)) by rw [List.any_map]; rfl, e, List.any_map]; rfl
  unfold putD putK
  rw [hk]
  split
  · clear hk
    rename_i hc
    clear hc
    induction ds generalizing xs F with
    | nil => cases r; exact ⟨[], .nil, List.Sublist.slnil⟩
    | cons e ds ih =>
      cases r with
      | @cons j e u _ us F G p r =>
        obtain ⟨G', q, s⟩ := ih r
        by_cases ej : j = k
        · exact ⟨[] ++ G', by simpa [ej] using RepK.cons (k := k) h q, s.trans (List.sublist_append_right _ _)⟩
        · exact ⟨F ++ G', by simpa [ej] using RepK.cons (k := j) p q, List.Sublist.append (List.Sublist.refl _) s⟩
  · refine ⟨F ++ [], r.append ?_, by simp⟩
    exact RepK.cons (F := []) (G := []) h .nil
theorem RepK.drop {ds : List (Key × D)} {xs : List (Key × V)} {F : List Addr} {k : Key} (r : RepK K H ds xs F) : ∃ G, RepK K H (dropD ds k) (dropK xs k) G ∧ G.Sublist F := by
  induction ds generalizing xs F with
  | nil => cases r; exact ⟨[], .nil, List.Sublist.slnil⟩
  | cons e ds ih =>
    cases r with
    | @cons j e u _ us F G p r =>
      obtain ⟨G', q, s⟩ := ih r
      unfold dropD dropK at *
      by_cases ej : j = k
      · exact ⟨G', by simpa [ej] using q, s.trans (List.sublist_append_right _ _)⟩
      · exact ⟨F ++ G', by simpa [ej] using RepK.cons (k := j) p q, List.Sublist.append (List.Sublist.refl _) s⟩
theorem RepT.length {ds : List (List Key × D)} {xs : List (List Key × V)} {F : List Addr} (r : RepT K H ds xs F) : xs.length = ds.length := by
  induction ds generalizing xs F with
  | nil => cases r; rfl
  | cons d ds ih => cases r with | cons h r => simp [ih r]
theorem RepT.keys {ds : List (List Key × D)} {xs : List (List Key × V)} {F : List Addr} (r : RepT K H ds xs F) : xs.map (·.1) = ds.map (·.1) := by
  induction ds generalizing xs F with
  | nil => cases r; rfl
  | cons d ds ih => cases r with | cons h r => simp [ih r]
theorem RepT.val {ds : List (List Key × D)} {xs : List (List Key × V)} {F : List Addr} (r : RepT K H ds xs F) (k : List Key) :
    (valD ds k = none ∧ valV xs k = none) ∨ ∃ d v B, valD ds k = some d ∧ valV xs k = some v ∧ Rep K H d v B ∧ B.Sublist F := by
  induction ds generalizing xs F with
  | nil => cases r; exact .inl ⟨rfl, rfl⟩
  | cons d ds ih =>
    cases r with
    | @cons j d v _ vs F G h r =>
      rw [valD_cons]
      by_cases e : j = k
      · rw [valV_pos e, if_pos e]
        exact .inr ⟨d, v, F, rfl, rfl, h, List.sublist_append_left _ _⟩
      · rw [valV_neg e, if_neg e]
        rcases ih r with q | ⟨d', v', B, h1, h2, h3, h4⟩
        · exact .inl q
        · exact .inr ⟨d', v', B, h1, h2, h3, h4.trans (List.sublist_append_right _ _)⟩
theorem RepT.append {ds es : List (List Key × D)} {xs ys : List (List Key × V)} {F G : List Addr} (r : RepT K H ds xs F) (q : RepT K H es ys G) : RepT K H (ds ++ es) (xs ++ ys) (F ++ G) := by
  induction ds generalizing xs F with
  | nil => cases r; exact q
  | cons d ds ih => cases r with | cons h r => rw [List.append_assoc]; exact .cons h (ih r)
theorem RepT.put {ds : List (List Key × D)} {xs : List (List Key × V)} {F : List Addr} {k : List Key} {d : D} {v : V} (r : RepT K H ds xs F) (h : Rep K H d v []) : ∃ G, RepT K H (putD ds k d) (putK xs k v) G ∧ G.Sublist F := by
  have hk : (xs.any fun kv => decide (kv.1 = k)) = (ds.any fun kv => decide (kv.1 = k)) := by
    have e := r.keys
    rw [show (xs.any fun kv => decide (kv.1 = k)) = (xs.map (·.1)).any (fun j => decide (j = k)) by rw [List.any_map]; rfl, e, List.any_map]; rfl
  unfold putD putK
  rw [hk]
  split
  · clear hk
    rename_i hc
    clear hc
    induction ds generalizing xs F with
    | nil => cases r; exact ⟨[], .nil, List.Sublist.slnil⟩
    | cons e ds ih =>
      cases r with
      | @cons j e u _ us F G p r =>
        obtain ⟨G', q, s⟩ := ih r
        by_cases ej : j = k
        · exact ⟨[] ++ G', by simpa [ej] using RepT.cons (k := k) h q, s.trans (List.sublist_append_right _ _)⟩
        · exact ⟨F ++ G', by simpa [ej] using RepT.cons (k := j) p q, List.Sublist.append (List.Sublist.refl _) s⟩
  · refine ⟨F ++ [], r.append ?_, by simp⟩
    exact RepT.cons (F := []) (G := []) h .nil
theorem RepT.drop {ds : List (List Key × D)} {xs : List (List Key × V)} {F : List Addr} {k : List Key} (r : RepT K H ds xs F) : ∃ G, RepT K H (dropD ds k) (dropK xs k) G ∧ G.Sublist F := by
  induction ds generalizing xs F with
  | nil => cases r; exact ⟨[], .nil, List.Sublist.slnil⟩
  | cons e ds ih =>
    cases r with
    | @cons j e u _ us F G p r =>
      obtain ⟨G', q, s⟩ := ih r
      unfold dropD dropK at *
      by_cases ej : j = k
      · exact ⟨G', by simpa [ej] using q, s.trans (List.sublist_append_right _ _)⟩
      · exact ⟨F ++ G', by simpa [ej] using RepT.cons (k := j) p q, List.Sublist.append (List.Sublist.refl _) s⟩
end
end PV
set_option Elab.async false
set_option linter.all false
set_option maxRecDepth 100000
set_option maxHeartbeats 4000000
namespace PV
open PySem PySem.Spec L2
noncomputable abbrev Env := List (Option D)
noncomputable def look : Env → Nat → Option D
  | [], _ => none
  | a :: _, 0 => a
  | _ :: r, n + 1 => look r n
theorem look_get : ∀ {ρ : Env} {i : Nat} {d : D}, look ρ i = some d → ρ[i]? = some (some d)
  | _ :: _, 0, _, h => by simpa [look] using h
  | _ :: r, n + 1, _, h => by simpa using look_get (ρ := r) (i := n) (by simpa [look] using h)
theorem look_lt {ρ : Env} {i : Nat} {d : D} (h : look ρ i = some d) : i < ρ.length := by
  have := look_get h
  exact (List.getElem?_eq_some_iff.mp this).1
theorem look_set {o : Option D} : ∀ {ρ : Env} {i j : Nat}, look (ρ.set i o) j = if j = i ∧ i < ρ.length then o else look ρ j
  | [], i, j => by simp [look]
  | a :: r, 0, 0 => by simp [look]
  | a :: r, 0, j + 1 => by simp [look]
  | a :: r, i + 1, 0 => by simp [look]
  | a :: r, i + 1, j + 1 => by
    have := look_set (o := o) (ρ := r) (i := i) (j := j)
    simp only [List.set_cons_succ, look, this, List.length_cons, Nat.add_right_cancel_iff, Nat.add_lt_add_iff_right]
theorem look_set_same {o : Option D} {ρ : Env} {i : Nat} (h : i < ρ.length) : look (ρ.set i o) i = o := by rw [look_set, if_pos ⟨rfl, h⟩]
theorem look_set_ne {o : Option D} {ρ : Env} {i j : Nat} (h : j ≠ i) : look (ρ.set i o) j = look ρ j := by rw [look_set, if_neg (fun z => h z.1)]
structure Tg where
  own : Nat → Bool
  io : List Nat
  /-- what is wanted of an exception: it, the names, the heap -/
  xe : D → St → Hp → Prop := fun _ _ _ => False
structure SR0 (K : PySem.W.Frag) (T : Tg) (z : Nat → V) (R : Addr → Prop) (H : Hp) (W : Addr → Prop) (σ : St) (ρ : Env) (fp : Nat → List Addr) : Prop where
  len : ρ.length = σ.length
  wd : ∀ a, W a → ∃ ob, H a = some ob ∧ imm ob = false
  at_ : ∀ i d, look ρ i = some d → ∃ v, σ[i]? = some (some v) ∧ Rep K H d v (fp i)
  own : ∀ i d, look ρ i = some d → T.own i = true → (fp i).Nodup ∧ ∀ a ∈ fp i, W a
  ro : ∀ i d, look ρ i = some d → T.own i = false → ∀ a ∈ fp i, R a
  wr : ∀ a, W a → ¬ R a
  rd : ∀ a, R a → ∃ ob, H a = some ob ∧ imm ob = false
  dis : ∀ i j d e, look ρ i = some d → look ρ j = some e → T.own i = true → T.own j = true → i ≠ j → ∀ a ∈ fp i, a ∉ fp j
  fix : ∀ i ∈ T.io, σ[i]? = some (some (z i))
noncomputable def SR (K : PySem.W.Frag) (T : Tg) (z : Nat → V) (R : Addr → Prop) (H : Hp) (W : Addr → Prop) (σ : St) (ρ : Env) : Prop := ∃ fp, SR0 K T z R H W σ ρ fp
structure FrW (H : Hp) (W : Addr → Prop) (H' : Hp) (W' : Addr → Prop) : Prop where
  keep : ∀ b ob, H b = some ob → ¬ W b → H' b = some ob
  dom : ∀ b, H' b = none → H b = none
  imm : ImmK H H'
  new : ∀ b, W' b → W b ∨ H b = none
theorem FrW.refl (H : Hp) (W : Addr → Prop) : FrW H W H W := ⟨fun _ _ h _ => h, fun _ h => h, fun _ _ h _ => h, fun _ h => .inl h⟩
theorem FrW.trans {H H1 H2 : Hp} {W W1 W2 : Addr → Prop} (a : FrW H W H1 W1) (b : FrW H1 W1 H2 W2) : FrW H W H2 W2 where
  keep := fun c ob h n => b.keep c ob (a.keep c ob h n) fun w => by
    rcases a.new c w with w | w
    · exact n w
    · rw [w] at h; cases h
  dom := fun c h => a.dom c (b.dom c h)
  imm := fun c ob h i => b.imm c ob (a.imm c ob h i) i
  new := fun c h => by
    rcases b.new c h with w | w
    · exact a.new c w
    · exact .inr (a.dom c w)
theorem Same.imm {H H' : Hp} (s : Same H H') : ImmK H H' := fun b ob h _ => s b ob h
theorem FrW.same {H H' : Hp} (W : Addr → Prop) (s : Same H H') : FrW H W H' W := ⟨fun b ob h _ => s b ob h, fun b h => s.free h, Same.imm s, fun _ h => .inl h⟩
theorem Rep.same {K : PySem.W.Frag} {H H' : Hp} {d : D} {v : V} {F : List Addr} (r : Rep K H d v F) (s : Same H H') : Rep K H' d v F :=
  r.frame (Same.imm s) fun a m => by
    obtain ⟨ob, h, _⟩ := r.dom a m
    rw [h]; exact s _ _ h
theorem Reps.same {K : PySem.W.Frag} {H H' : Hp} {d : List D} {v : List V} {F : List Addr} (r : Reps K H d v F) (s : Same H H') : Reps K H' d v F :=
  r.frame (Same.imm s) fun a m => by
    obtain ⟨ob, h, _⟩ := r.dom a m
    rw [h]; exact s _ _ h
theorem Rep.keep {K : PySem.W.Frag} {H H' : Hp} {W W' : Addr → Prop} {d : D} {v : V} {F : List Addr} (r : Rep K H d v F) (f : FrW H W H' W') (n : ∀ a ∈ F, ¬ W a) : Rep K H' d v F :=
  r.frame f.imm fun a m => by
    obtain ⟨ob, h, _⟩ := r.dom a m
    rw [h]; exact f.keep _ _ h (n a m)
theorem Reps.keep {K : PySem.W.Frag} {H H' : Hp} {W W' : Addr → Prop} {d : List D} {v : List V} {F : List Addr} (r : Reps K H d v F) (f : FrW H W H' W') (n : ∀ a ∈ F, ¬ W a) : Reps K H' d v F :=
  r.frame f.imm fun a m => by
    obtain ⟨ob, h, _⟩ := r.dom a m
    rw [h]; exact f.keep _ _ h (n a m)
section
variable {K : PySem.W.Frag} {T : Tg} {z : Nat → V} {R : Addr → Prop} {H H' : Hp} {W W' : Addr → Prop} {σ : St} {ρ : Env}
theorem SR.same (s : SR K T z R H W σ ρ) (k : Same H H') : SR K T z R H' W σ ρ := by
  obtain ⟨fp, r⟩ := s
  exact ⟨fp, r.len, fun a h => (r.wd a h).imp fun ob q => ⟨k _ _ q.1, q.2⟩, fun i d h => (r.at_ i d h).imp fun v q => ⟨q.1, q.2.same k⟩, r.own, r.ro, r.wr, fun a h => (r.rd a h).imp fun ob q => ⟨k _ _ q.1, q.2⟩, r.dis, r.fix⟩
theorem SR.len (s : SR K T z R H W σ ρ) : ρ.length = σ.length := by obtain ⟨fp, r⟩ := s; exact r.len
theorem SR.wd (s : SR K T z R H W σ ρ) : ∀ a, W a → ∃ ob, H a = some ob ∧ imm ob = false := by obtain ⟨fp, r⟩ := s; exact r.wd
theorem SR.rd (s : SR K T z R H W σ ρ) : ∀ a, R a → ∃ ob, H a = some ob ∧ imm ob = false := by obtain ⟨fp, r⟩ := s; exact r.rd
theorem SR.wr (s : SR K T z R H W σ ρ) : ∀ a, W a → ¬ R a := by obtain ⟨fp, r⟩ := s; exact r.wr
theorem SR.nr (s : SR K T z R H W σ ρ) {a : Addr} (h : H a = none) : ¬ R a := fun w => by
  obtain ⟨ob, q, _⟩ := s.rd a w
  rw [h] at q; cases q
theorem SR.nw (s : SR K T z R H W σ ρ) {a : Addr} (h : H a = none) : ¬ W a := fun w => by
  obtain ⟨ob, q, _⟩ := s.wd a w
  rw [h] at q; cases q
theorem SR.drop (s : SR K T z R H W σ ρ) (i : Nat) : SR K T z R H W σ (ρ.set i none) := by
  obtain ⟨fp, r⟩ := s
  have key : ∀ j d, look (ρ.set i none) j = some d → look ρ j = some d := fun j d h => by
    rw [look_set] at h
    split at h
    · cases h
    · exact h
  exact ⟨fp, by rw [List.length_set]; exact r.len, r.wd, fun j d h => r.at_ j d (key j d h), fun j d h => r.own j d (key j d h), fun j d h => r.ro j d (key j d h), r.wr, r.rd, fun j k d e h h' => r.dis j k d e (key j d h) (key k e h'), r.fix⟩
end
noncomputable abbrev WE := Env → (D → Env → Prop) → Prop
structure Post (K : PySem.W.Frag) (T : Tg) (z : Nat → V) (R : Addr → Prop) (m o : Bool) (H : Hp) (W : Addr → Prop) (σ : St) (ρ : Env) (H' : Hp) (W' : Addr → Prop) (ρ' : Env) (d : D) (v : V) (F : List Addr) : Prop where
  sr : SR K T z R H' W' σ ρ'
  fr : FrW H W H' W'
  calm : m = false → Same H H' ∧ W' = W ∧ ρ' = ρ
  rep : Rep K H' d v F
  own : o = true → F.Nodup ∧ ∀ a ∈ F, H a = none ∧ ¬ W' a
noncomputable def EV (X : Cx) (T : Tg) (m o : Bool) (e : Expr) (w : WE) : Prop :=
  ∃ te, PE X e te ∧ ∀ (z : Nat → V) (R : Addr → Prop) (σ : St) (H : Hp) (W : Addr → Prop) (ρ : Env) (Q : D → Env → Prop) (Q' : VK), SR X.K T z R H W σ ρ → w ρ Q →
    (∀ v H' W' d ρ' F, Post X.K T z R m o H W σ ρ H' W' ρ' d v F → Q d ρ' → Q' v H') → te σ H Q'
section
variable {K : PySem.W.Frag} {T : Tg} {z : Nat → V} {R : Addr → Prop} {H H1 H2 : Hp} {W W1 W2 : Addr → Prop} {σ : St} {ρ ρ1 ρ2 : Env} {m1 m2 o1 o2 : Bool} {d1 d2 : D} {v1 v2 : V} {F1 F2 : List Addr}
theorem Post.first (p : Post K T z R m1 o1 H W σ ρ H1 W1 ρ1 d1 v1 F1) (q : Post K T z R m2 o2 H1 W1 σ ρ1 H2 W2 ρ2 d2 v2 F2) (hc : o1 = true ∨ m2 = false) : Rep K H2 d1 v1 F1 := by
  rcases hc with hc | hc
  · exact p.rep.keep q.fr fun a h => ((p.own hc).2 a h).2
  · exact p.rep.same (q.calm hc).1
theorem Post.firstOwn (p : Post K T z R m1 o1 H W σ ρ H1 W1 ρ1 d1 v1 F1) (q : Post K T z R m2 o2 H1 W1 σ ρ1 H2 W2 ρ2 d2 v2 F2) (h : o1 = true) : F1.Nodup ∧ ∀ a ∈ F1, H a = none ∧ ¬ W2 a := by
  obtain ⟨h1, h2⟩ := p.own h
  refine ⟨h1, fun a m => ⟨(h2 a m).1, fun w => ?_⟩⟩
  rcases q.fr.new a w with w | w
  · exact (h2 a m).2 w
  · obtain ⟨ob, e, _⟩ := p.rep.dom a m
    rw [e] at w; cases w
theorem Post.lastOwn (p : Post K T z R m1 o1 H W σ ρ H1 W1 ρ1 d1 v1 F1) (q : Post K T z R m2 o2 H1 W1 σ ρ1 H2 W2 ρ2 d2 v2 F2) (h : o2 = true) : F2.Nodup ∧ ∀ a ∈ F2, H a = none ∧ ¬ W2 a := by
  obtain ⟨h1, h2⟩ := q.own h
  exact ⟨h1, fun a m => ⟨p.fr.dom a (h2 a m).1, (h2 a m).2⟩⟩
theorem Post.calm2 (p : Post K T z R m1 o1 H W σ ρ H1 W1 ρ1 d1 v1 F1) (q : Post K T z R m2 o2 H1 W1 σ ρ1 H2 W2 ρ2 d2 v2 F2) (h : (m1 || m2) = false) : Same H H2 ∧ W2 = W ∧ ρ2 = ρ := by
  rw [Bool.or_eq_false_iff] at h
  obtain ⟨a1, a2, a3⟩ := p.calm h.1
  obtain ⟨b1, b2, b3⟩ := q.calm h.2
  exact ⟨a1.trans b1, b2.trans a2, b3.trans a3⟩
theorem Post.fin {m : Bool} {d : D} {v : V} {F : List Addr} (s : SR K T z R H1 W1 σ ρ1) (f : FrW H W H1 W1) (c : m = false → Same H H1 ∧ W1 = W ∧ ρ1 = ρ) (k : Same H1 H2) (r : Rep K H2 d v F) (nd : F.Nodup) (nw : ∀ a ∈ F, H1 a = none) :
    Post K T z R m true H W σ ρ H2 W1 ρ1 d v F where
  sr := s.same k
  fr := f.trans (FrW.same W1 k)
  calm := fun h => ⟨(c h).1.trans k, (c h).2⟩
  rep := r
  own := fun _ => ⟨nd, fun a m => ⟨f.dom a (nw a m), s.nw (nw a m)⟩⟩
theorem Post.flat {m : Bool} {d : D} {v : V} (s : SR K T z R H1 W1 σ ρ1) (f : FrW H W H1 W1) (c : m = false → Same H H1 ∧ W1 = W ∧ ρ1 = ρ) (r : Rep K H1 d v []) : Post K T z R m true H W σ ρ H1 W1 ρ1 d v [] where
  sr := s
  fr := f
  calm := c
  rep := r
  own := fun _ => ⟨List.nodup_nil, fun a m => nomatch m⟩
end
section
variable {X : Cx} {T : Tg} {m o m1 m2 o1 o2 : Bool} {e a b : Expr} {w wa wb : WE} {pos : Pos}
theorem EV.lift (h : EV X T m o e w) : EV X T m true e (fun ρ Q => w ρ fun d ρ' => d.pure = true ∧ Q d ρ') := by
  obtain ⟨te, p, g⟩ := h
  refine ⟨te, p, fun z R σ H W ρ Q Q' s hw k => g z R σ H W ρ _ Q' s hw fun v H' W' d ρ' F q ⟨hp, hq⟩ => ?_⟩
  obtain ⟨e, r⟩ := q.rep.pure hp
  exact k v H' W' d ρ' [] ⟨q.sr, q.fr, q.calm, r, fun _ => ⟨List.nodup_nil, fun a m => nomatch m⟩⟩ hq
theorem EV.ro (h : EV X T m o e w) : EV X T m false e w := by
  obtain ⟨te, p, g⟩ := h
  exact ⟨te, p, fun z R σ H W ρ Q Q' s hw k => g z R σ H W ρ _ Q' s hw fun v H' W' d ρ' F q hq => k v H' W' d ρ' F ⟨q.sr, q.fr, q.calm, q.rep, fun h => nomatch h⟩ hq⟩
noncomputable def wVar (i : Nat) : WE := fun ρ Q => match look ρ i with
  | some d => Q d ρ
  | none => False
noncomputable def wC (d : D) : WE := fun ρ Q => Q d ρ
theorem ev_pv (i : Nat) (h : PE X e (tVar i)) : EV X T false false e (wVar i) := by
  refine ⟨_, h, fun z R σ H W ρ Q Q' s hw k => ?_⟩
  unfold wVar at hw
  cases hl : look ρ i with
  | none => rw [hl] at hw; exact hw.elim
  | some d =>
    rw [hl] at hw
    obtain ⟨fp, r⟩ := s
    obtain ⟨v, h1, h2⟩ := r.at_ i d hl
    exact ⟨v, h1, k v H W d ρ (fp i) ⟨⟨fp, r⟩, FrW.refl H W, fun _ => ⟨Same.refl H, rfl, rfl⟩, h2, fun h => nomatch h⟩ hw⟩
theorem ev_var (i : Nat) {x : Str} (hN : X.N[i]? = some x := by rfl) (hv : Vis X.env.scope x := by first | exact Or.inl rfl | exact Or.inr (Or.inl rfl) | exact Or.inr (Or.inr rfl)) (hd : (x == ("__debug__" : Str)) = false := by decide)
    (hcd : (x == ("__classdict__" : Str)) = false := by decide) : EV X T false false (.Name x pos) (wVar i) := ev_pv i (pe_var hN hv hd hcd)
theorem ev_const {d : D} {v : V} (h : PE X e (tC v)) (r : ∀ H, Rep X.K H d v []) : EV X T false true e (wC d) :=
  ⟨_, h, fun z R σ H W ρ Q Q' s hw k => k v H W d ρ [] (Post.flat s (FrW.refl H W) (fun _ => ⟨Same.refl H, rfl, rfl⟩) (r H)) hw⟩
theorem ev_int {i : Int} {j pos} : EV X T false true (.Constant (.int i) j pos) (wC (.int i)) := ev_const pe_int fun _ => .int i
theorem ev_bl {i : Bool} {j pos} : EV X T false true (.Constant (.bool i) j pos) (wC (.bl i)) := ev_const pe_bl fun _ => .bl i
theorem ev_str {i : Str} {j pos} : EV X T false true (.Constant (.str i) j pos) (wC (.str i)) := ev_const pe_str fun _ => .str i
theorem ev_non {j pos} : EV X T false true (.Constant .none j pos) (wC .non) := ev_const pe_non fun _ => .non
noncomputable abbrev G2 := D → D → (D → Prop) → Prop
structure Fin (K : PySem.W.Frag) (H H' : Hp) (d : D) (v : V) (F : List Addr) : Prop where
  same : Same H H'
  rep : Rep K H' d v F
  nd : F.Nodup
  new : ∀ a ∈ F, H a = none
theorem Fin.flat {K : PySem.W.Frag} {H : Hp} {d : D} {v : V} (r : Rep K H d v []) : Fin K H H d v [] := ⟨Same.refl H, r, List.nodup_nil, fun _ m => nomatch m⟩
theorem same_upd {H : Hp} {p : Addr} {ob : HO} (h : H p = none) : Same H (upd H p ob) := fun b u e => by rw [upd_ne (ne_of_none e h)]; exact e
noncomputable def OpD (X : Cx) (f : Value → Value → Sem Value) (g : G2) : Prop :=
  ∃ r, OpR X f r ∧ ∀ (H : Hp) (a b : D) (x y : V) (F1 F2 : List Addr) (k : D → Prop) (Q : VK), Rep X.K H a x F1 → Rep X.K H b y F2 → g a b k →
    (∀ v H' d F, Fin X.K H H' d v F → k d → Q v H') → r x y H Q
noncomputable def wBin (g : G2) (wa wb : WE) : WE := fun ρ Q => wa ρ fun x ρ1 => wb ρ1 fun y ρ2 => g x y fun d => Q d ρ2
theorem two {ta tb : TE} {z : Nat → V} {R : Addr → Prop} {σ : St} {H : Hp} {W : Addr → Prop} {ρ : Env} {RR : V → V → Hp → Prop} {Q2 : D → D → Env → Prop}
    (ga : ∀ (z : Nat → V) (R : Addr → Prop) (σ : St) (H : Hp) (W : Addr → Prop) (ρ : Env) (Q : D → Env → Prop) (Q' : VK), SR X.K T z R H W σ ρ → wa ρ Q → (∀ v H' W' d ρ' F, Post X.K T z R m1 o1 H W σ ρ H' W' ρ' d v F → Q d ρ' → Q' v H') → ta σ H Q')
    (gb : ∀ (z : Nat → V) (R : Addr → Prop) (σ : St) (H : Hp) (W : Addr → Prop) (ρ : Env) (Q : D → Env → Prop) (Q' : VK), SR X.K T z R H W σ ρ → wb ρ Q → (∀ v H' W' d ρ' F, Post X.K T z R m2 o2 H W σ ρ H' W' ρ' d v F → Q d ρ' → Q' v H') → tb σ H Q')
    (hc : o1 = true ∨ m2 = false) (s : SR X.K T z R H W σ ρ) (hw : wa ρ fun x ρ1 => wb ρ1 fun y ρ2 => Q2 x y ρ2)
    (k : ∀ x y H2 W2 d1 d2 ρ2 F1 F2, SR X.K T z R H2 W2 σ ρ2 → FrW H W H2 W2 → ((m1 || m2) = false → Same H H2 ∧ W2 = W ∧ ρ2 = ρ) → Rep X.K H2 d1 x F1 → Rep X.K H2 d2 y F2 →
      (o1 = true → F1.Nodup ∧ ∀ a ∈ F1, H a = none ∧ ¬ W2 a) → (o2 = true → F2.Nodup ∧ ∀ a ∈ F2, H a = none ∧ ¬ W2 a) → (o2 = true → ∀ a ∈ F1, a ∉ F2) → Q2 d1 d2 ρ2 → RR x y H2) :
    ta σ H fun x H1 => tb σ H1 fun y H2 => RR x y H2 := by
  refine ga z R σ H W ρ _ _ s hw fun v1 H1 W1 d1 ρ1 F1 p q1 => ?_
  refine gb z R σ H1 W1 ρ1 _ _ p.sr q1 fun v2 H2 W2 d2 ρ2 F2 q q2 => ?_
  refine k v1 v2 H2 W2 d1 d2 ρ2 F1 F2 q.sr (p.fr.trans q.fr) (p.calm2 q) (p.first q hc) q.rep (p.firstOwn q) (p.lastOwn q) (fun h a m1 m2 => ?_) q2
  obtain ⟨ob, e, _⟩ := p.rep.dom a m1
  rw [((q.own h).2 a m2).1] at e
  cases e
theorem ev_op {op : Operator} {g : G2} (ho : OpD X (binaryOp op) g) (ha : EV X T m1 o1 a wa) (hb : EV X T m2 o2 b wb) (hc : o1 = true ∨ m2 = false := by first | exact .inl rfl | exact .inr rfl) :
    EV X T (m1 || m2) true (.BinOp a op b pos) (wBin g wa wb) := by
  obtain ⟨r, ro, gr⟩ := ho
  obtain ⟨ta, pa, ga⟩ := ha
  obtain ⟨tb, pb, gb⟩ := hb
  refine ⟨_, pe_op ro pa pb, fun z R σ H W ρ Q Q' s hw k => ?_⟩
  refine two ga gb hc s hw fun x y H2 W2 d1 d2 ρ2 F1 F2 s2 f2 c2 r1 r2 _ _ _ q2 => ?_
  exact gr H2 d1 d2 x y F1 F2 _ Q' r1 r2 q2 fun v H' d F fi hk => k v H' W2 d ρ2 F (Post.fin s2 f2 c2 fi.same fi.rep fi.nd fi.new) hk
theorem ev_cmp {op : CmpOp} {g : G2} (ho : OpD X (compareOp op) g) (ha : EV X T m1 o1 a wa) (hb : EV X T m2 o2 b wb) (hc : o1 = true ∨ m2 = false := by first | exact .inl rfl | exact .inr rfl)
    (hm : behindInMarks op b = false := by first | exact nomark _ | with_unfolding_all rfl) : EV X T (m1 || m2) true (.Compare a [op] [b] pos) (wBin g wa wb) := by
  obtain ⟨r, ro, gr⟩ := ho
  obtain ⟨ta, pa, ga⟩ := ha
  obtain ⟨tb, pb, gb⟩ := hb
  refine ⟨_, pe_cmpR ro pa pb hm, fun z R σ H W ρ Q Q' s hw k => ?_⟩
  refine two ga gb hc s hw fun x y H2 W2 d1 d2 ρ2 F1 F2 s2 f2 c2 r1 r2 _ _ _ q2 => ?_
  exact gr H2 d1 d2 x y F1 F2 _ Q' r1 r2 q2 fun v H' d F fi hk => k v H' W2 d ρ2 F (Post.fin s2 f2 c2 fi.same fi.rep fi.nd fi.new) hk
noncomputable def UnD (X : Cx) (f : Value → Sem Value) (g : D → (D → Prop) → Prop) : Prop :=
  ∃ r, UnR X f r ∧ ∀ (H : Hp) (a : D) (x : V) (F1 : List Addr) (k : D → Prop) (Q : VK), Rep X.K H a x F1 → g a k → (∀ v H' d F, Fin X.K H H' d v F → k d → Q v H') → r x H Q
noncomputable def wUn (g : D → (D → Prop) → Prop) (wa : WE) : WE := fun ρ Q => wa ρ fun x ρ1 => g x fun d => Q d ρ1
theorem ev_un {op : UnaryOp} {g : D → (D → Prop) → Prop} (ho : UnD X (unaryOp op) g) (ha : EV X T m o a wa) : EV X T m true (.UnaryOp op a pos) (wUn g wa) := by
  obtain ⟨r, ro, gr⟩ := ho
  obtain ⟨ta, pa, ga⟩ := ha
  refine ⟨_, pe_un ro pa, fun z R σ H W ρ Q Q' s hw k => ?_⟩
  refine ga z R σ H W ρ _ _ s hw fun v1 H1 W1 d1 ρ1 F1 p q1 => ?_
  exact gr H1 d1 v1 F1 _ Q' p.rep q1 fun v H' d F fi hk => k v H' W1 d ρ1 F (Post.fin p.sr p.fr p.calm fi.same fi.rep fi.nd fi.new) hk
noncomputable abbrev WT := Env → (Bool → Env → Prop) → Prop
structure PostT (K : PySem.W.Frag) (T : Tg) (z : Nat → V) (R : Addr → Prop) (m : Bool) (H : Hp) (W : Addr → Prop) (σ : St) (ρ : Env) (H' : Hp) (W' : Addr → Prop) (ρ' : Env) : Prop where
  sr : SR K T z R H' W' σ ρ'
  fr : FrW H W H' W'
  calm : m = false → Same H H' ∧ W' = W ∧ ρ' = ρ
noncomputable def TV (X : Cx) (T : Tg) (m : Bool) (e : Expr) (w : WT) : Prop :=
  ∃ tt, PT X e tt ∧ ∀ (z : Nat → V) (R : Addr → Prop) (σ : St) (H : Hp) (W : Addr → Prop) (ρ : Env) (Q : Bool → Env → Prop) (Q' : Bool → Hp → Prop), SR X.K T z R H W σ ρ → w ρ Q →
    (∀ b H' W' ρ', PostT X.K T z R m H W σ ρ H' W' ρ' → Q b ρ' → Q' b H') → tt σ H Q'
noncomputable def truD : D → Option Bool
  | .non => some false
  | .bl b => some b
  | .int i => some (i != 0)
  | .str y => if y.length ≤ sizeLine then some ((y.length : Int) != 0) else none
  | .lst xs => some (!xs.isEmpty)
  | .tup xs => some (!xs.isEmpty)
  | .dik kvs => some (!kvs.isEmpty)
  | .kls xs => some (!xs.isEmpty)
  | .dit _ => none
  | .ty _ => none
  | .fdk _ => none
  | .ftp _ => none
  | .fls _ => none
  | .fdt _ => none
  | .obj _ _ => none
  | .clo _ _ => none
noncomputable def wTru (wa : WE) : WT := fun ρ Q => wa ρ fun d ρ' => match truD d with
  | some b => Q b ρ'
  | none => False
theorem Reps.emp {K : PySem.W.Frag} {H : Hp} {ds : List D} {xs : List V} {F : List Addr} (r : Reps K H ds xs F) : ds.isEmpty = xs.isEmpty := by
  have := r.length
  cases ds <;> cases xs <;> simp at this <;> rfl
theorem RepK.emp {K : PySem.W.Frag} {H : Hp} {ds : List (Key × D)} {xs : List (Key × V)} {F : List Addr} (r : RepK K H ds xs F) : ds.isEmpty = xs.isEmpty := by
  have := r.length
  cases ds <;> cases xs <;> simp at this <;> rfl
theorem truV_of {K : PySem.W.Frag} {H : Hp} {d : D} {x : V} {F : List Addr} {b : Bool} (r : Rep K H d x F) (h : truD d = some b) : TruV K x H b := by
  cases r with
  | non => exact (Option.some.inj h).symm
  | bl c => exact (Option.some.inj h).symm
  | int c => exact (Option.some.inj h).symm
  | str y =>
    have h : (if y.length ≤ sizeLine then some ((y.length : Int) != 0) else none) = some b := h
    split at h
    · rename_i hl; exact ⟨hl, (Option.some.inj h).symm⟩
    · cases h
  | tup e r =>
    refine .inr (.inl ⟨_, .of e, ?_⟩)
    rw [← Option.some.inj h, r.emp]
  | lst e r =>
    refine .inl ⟨_, .of e, ?_⟩
    rw [← Option.some.inj h, r.emp]
  | kls e r =>
    refine .inl ⟨_, e.sq, ?_⟩
    rw [← Option.some.inj h, r.emp]
  | dik e r =>
    refine .inr (.inr ⟨_, e, ?_⟩)
    rw [← Option.some.inj h, r.emp]
  | dit e r => cases h
  | ty t => cases h
  | fdk e r => cases h
  | ftp e hd r => cases h
  | fls e r => cases h
  | fdt e r => cases h
  | obj e hc hf => cases h
  | clo e r => cases h
theorem tv_tru (ha : EV X T m o a wa) (he : ∀ whole, isTrue a X.env whole = (do let v ← whole; standAt a.pos; holding [v] (truthy v)) := by intro _; rfl) : TV X T m a (wTru wa) := by
  obtain ⟨ta, pa, ga⟩ := ha
  refine ⟨_, pt_truth pa he, fun z R σ H W ρ Q Q' s hw k => ?_⟩
  refine ga z R σ H W ρ _ _ s hw fun v1 H1 W1 d1 ρ1 F1 p q1 => ?_
  cases ht : truD d1 with
  | none => rw [ht] at q1; exact q1.elim
  | some b =>
    rw [ht] at q1
    exact ⟨b, truV_of p.rep ht, k b H1 W1 ρ1 ⟨p.sr, p.fr, p.calm⟩ q1⟩
noncomputable def wBl (wa : WE) : WT := fun ρ Q => wa ρ fun d ρ' => match d with
  | .bl b => Q b ρ'
  | _ => False
theorem rep_bl {K : PySem.W.Frag} {H : Hp} {b : Bool} {x : V} {F : List Addr} (r : Rep K H (.bl b) x F) : x = .bl b := by cases r; rfl
theorem tv_cmp {op : CmpOp} {g : G2} (ho : OpD X (compareOp op) g) (ha : EV X T m1 o1 a wa) (hb : EV X T m2 o2 b wb) (hc : o1 = true ∨ m2 = false := by first | exact .inl rfl | exact .inr rfl)
    (hm : behindInMarks op b = false := by first | exact nomark _ | with_unfolding_all rfl) : TV X T (m1 || m2) (.Compare a [op] [b] pos) (wBl (wBin g wa wb)) := by
  obtain ⟨r, ro, gr⟩ := ho
  obtain ⟨ta, pa, ga⟩ := ha
  obtain ⟨tb, pb, gb⟩ := hb
  refine ⟨_, pt_cmpR ro pa pb hm, fun z R σ H W ρ Q Q' s hw k => ?_⟩
  refine two ga gb hc s hw fun x y H2 W2 d1 d2 ρ2 F1 F2 s2 f2 c2 r1 r2 _ _ _ q2 => ?_
  refine gr H2 d1 d2 x y F1 F2 _ _ r1 r2 q2 fun v H' d F fi hk => ?_
  cases d with
  | bl b => exact ⟨b, rep_bl fi.rep, k b H' W2 ρ2 ⟨s2.same fi.same, f2.trans (FrW.same W2 fi.same), fun h => ⟨(c2 h).1.trans fi.same, (c2 h).2⟩⟩ hk⟩
  | _ => exact hk.elim
variable {wt wu : WT} {rest : List Expr}
noncomputable def wNot (wt : WT) : WT := fun ρ Q => wt ρ fun b ρ' => Q (!b) ρ'
noncomputable def wAnd (wt wu : WT) : WT := fun ρ Q => wt ρ fun b ρ' => if b = true then wu ρ' Q else Q false ρ'
noncomputable def wOr (wt wu : WT) : WT := fun ρ Q => wt ρ fun b ρ' => if b = true then Q true ρ' else wu ρ' Q
theorem tv_not (ha : TV X T m a wt) : TV X T m (.UnaryOp .Not a pos) (wNot wt) := by
  obtain ⟨ta, pa, ga⟩ := ha
  exact ⟨_, pt_not pa, fun z R σ H W ρ Q Q' s hw k => ga z R σ H W ρ _ _ s hw fun b H1 W1 ρ1 p q1 => k (!b) H1 W1 ρ1 p q1⟩
noncomputable def BV (X : Cx) (T : Tg) (m : Bool) (e : Expr) (w : WT) : Prop :=
  ∃ tt, PW X e tt ∧ ∀ (z : Nat → V) (R : Addr → Prop) (σ : St) (H : Hp) (W : Addr → Prop) (ρ : Env) (Q : Bool → Env → Prop) (Q' : Bool → Hp → Prop), SR X.K T z R H W σ ρ → w ρ Q →
    (∀ b H' W' ρ', PostT X.K T z R m H W σ ρ H' W' ρ' → Q b ρ' → Q' b H') → tt σ H Q'
theorem PostT.seq {K : PySem.W.Frag} {z : Nat → V} {R : Addr → Prop} {H H1 H2 : Hp} {W W1 W2 : Addr → Prop} {σ : St} {ρ ρ1 ρ2 : Env} (p : PostT K T z R m1 H W σ ρ H1 W1 ρ1) (q : PostT K T z R m2 H1 W1 σ ρ1 H2 W2 ρ2) : PostT K T z R (m1 || m2) H W σ ρ H2 W2 ρ2 where
  sr := q.sr
  fr := p.fr.trans q.fr
  calm := fun h => by
    rw [Bool.or_eq_false_iff] at h
    obtain ⟨a1, a2, a3⟩ := p.calm h.1
    obtain ⟨b1, b2, b3⟩ := q.calm h.2
    exact ⟨a1.trans b1, b2.trans a2, b3.trans a3⟩
theorem PostT.left {K : PySem.W.Frag} {z : Nat → V} {R : Addr → Prop} {H H1 : Hp} {W W1 : Addr → Prop} {σ : St} {ρ ρ1 : Env} (p : PostT K T z R m1 H W σ ρ H1 W1 ρ1) : PostT K T z R (m1 || m2) H W σ ρ H1 W1 ρ1 :=
  ⟨p.sr, p.fr, fun h => p.calm (Bool.or_eq_false_iff.mp h).1⟩
theorem bv_and1 (ha : TV X T m a wt) : BV X T m (.BoolOp .And [a] pos) wt := by
  obtain ⟨ta, pa, ga⟩ := ha
  exact ⟨_, pw_and1 pa, ga⟩
theorem bv_or1 (ha : TV X T m a wt) : BV X T m (.BoolOp .Or [a] pos) wt := by
  obtain ⟨ta, pa, ga⟩ := ha
  exact ⟨_, pw_or1 pa, ga⟩
theorem bv_and (ha : TV X T m1 a wt) (hb : BV X T m2 (.BoolOp .And (b :: rest) pos) wu) : BV X T (m1 || m2) (.BoolOp .And (a :: b :: rest) pos) (wAnd wt wu) := by
  obtain ⟨ta, pa, ga⟩ := ha
  obtain ⟨tb, pb, gb⟩ := hb
  refine ⟨_, pw_and pa pb, fun z R σ H W ρ Q Q' s hw k => ga z R σ H W ρ _ _ s hw fun c H1 W1 ρ1 p q1 => ?_⟩
  cases c with
  | true => exact gb z R σ H1 W1 ρ1 Q Q' p.sr q1 fun b H2 W2 ρ2 q q2 => k b H2 W2 ρ2 (p.seq q) q2
  | false => exact k false H1 W1 ρ1 p.left q1
theorem bv_or (ha : TV X T m1 a wt) (hb : BV X T m2 (.BoolOp .Or (b :: rest) pos) wu) : BV X T (m1 || m2) (.BoolOp .Or (a :: b :: rest) pos) (wOr wt wu) := by
  obtain ⟨ta, pa, ga⟩ := ha
  obtain ⟨tb, pb, gb⟩ := hb
  refine ⟨_, pw_or pa pb, fun z R σ H W ρ Q Q' s hw k => ga z R σ H W ρ _ _ s hw fun c H1 W1 ρ1 p q1 => ?_⟩
  cases c with
  | false => exact gb z R σ H1 W1 ρ1 Q Q' p.sr q1 fun b H2 W2 ρ2 q q2 => k b H2 W2 ρ2 (p.seq q) q2
  | true => exact k true H1 W1 ρ1 p.left q1
theorem tv_bool (h : BV X T m e wt) : TV X T m e wt := by
  obtain ⟨ta, pa, ga⟩ := h
  exact ⟨_, pa.pt, ga⟩
noncomputable def wIfE (wt : WT) (wa wb : WE) : WE := fun ρ Q => wt ρ fun c ρ1 => if c = true then wa ρ1 Q else wb ρ1 Q
theorem ev_if {c : Expr} {m0 : Bool} (hc : TV X T m0 c wt) (ha : EV X T m1 o a wa) (hb : EV X T m2 o b wb) : EV X T (m0 || (m1 || m2)) o (.IfExp c a b pos) (wIfE wt wa wb) := by
  obtain ⟨tc, pc, gc⟩ := hc
  obtain ⟨ta, pa, ga⟩ := ha
  obtain ⟨tb, pb, gb⟩ := hb
  refine ⟨_, pe_ifExp pc pa pb, fun z R σ H W ρ Q Q' s hw k => gc z R σ H W ρ _ _ s hw fun c H1 W1 ρ1 p q1 => ?_⟩
  have fin : ∀ {m' : Bool} v H' W' d ρ' F, Post X.K T z R m' o H1 W1 σ ρ1 H' W' ρ' d v F → ((m1 || m2) = false → m' = false) → Q d ρ' → Q' v H' := fun v H' W' d ρ' F q hm hq => by
    refine k v H' W' d ρ' F ⟨q.sr, p.fr.trans q.fr, fun h => ?_, q.rep, fun h => ⟨(q.own h).1, fun a ma => ⟨p.fr.dom a ((q.own h).2 a ma).1, ((q.own h).2 a ma).2⟩⟩⟩ hq
    rw [Bool.or_eq_false_iff] at h
    obtain ⟨a1, a2, a3⟩ := p.calm h.1
    obtain ⟨b1, b2, b3⟩ := q.calm (hm h.2)
    exact ⟨a1.trans b1, b2.trans a2, b3.trans a3⟩
  cases c with
  | true => exact ga z R σ H1 W1 ρ1 Q Q' p.sr q1 fun v H' W' d ρ' F q hq => fin v H' W' d ρ' F q (fun h => (Bool.or_eq_false_iff.mp h).1) hq
  | false => exact gb z R σ H1 W1 ρ1 Q Q' p.sr q1 fun v H' W' d ρ' F q hq => fin v H' W' d ρ' F q (fun h => (Bool.or_eq_false_iff.mp h).2) hq
end
end PV
set_option Elab.async false
set_option linter.all false
set_option maxRecDepth 100000
set_option maxHeartbeats 4000000
namespace PV
open PySem PySem.Spec L2
open PySem.W (Dat kqdP kqdPs kqdOk)
mutual
noncomputable def toDat : D → Dat
  | .non => .none
  | .bl b => .bool b
  | .int i => .int i
  | .str x => .str x
  | .tup xs => .tuple (toDats xs)
  | .lst xs => .list (toDats xs)
  | .dik _ => .none
  | .dit _ => .none
  | .kls _ => .none
  | .ty _ => .none
  | .fdk _ => .none
  | .ftp _ => .none
  | .fls _ => .none
  | .fdt _ => .none
  | .obj _ _ => .none
  | .clo _ _ => .none
noncomputable def toDats : List D → List Dat
  | [] => []
  | d :: r => toDat d :: toDats r
end
mutual
noncomputable def eqOk : Nat → D → Bool
  | _, .non => true
  | _, .int _ => true
  | _, .str x => PyData.strOk x
  | n + 1, .tup xs => eqOks n xs
  | n + 1, .lst xs => eqOks n xs
  | _, _ => false
noncomputable def eqOks : Nat → List D → Bool
  | _, [] => true
  | n, d :: r => eqOk n d && eqOks n r
end
theorem eqOks_iff {n : Nat} {xs : List D} : eqOks n xs = true ↔ ∀ x ∈ xs, eqOk n x = true := by
  induction xs with
  | nil => simp [eqOks]
  | cons d r ih => simp only [eqOks, Bool.and_eq_true, ih, List.mem_cons, forall_eq_or_imp]
mutual
theorem eqOk_kqd : ∀ (n : Nat) (d : D), eqOk n d = true → kqdOk n (toDat d) = true
  | _, .non, _ => by simp [toDat, kqdOk]
  | _, .bl _, h => by cases ‹Nat› <;> simp [eqOk] at h
  | _, .int _, _ => by simp [toDat, kqdOk]
  | _, .str x, h => by
    cases ‹Nat› <;> (simp only [eqOk] at h; simpa [toDat, kqdOk] using h)
  | 0, .tup _, h => by simp [eqOk] at h
  | 0, .lst _, h => by simp [eqOk] at h
  | n + 1, .tup xs, h => by
    simp only [eqOk] at h
    rw [toDat]; simp only [kqdOk]
    exact eqOks_kqd n xs h
  | n + 1, .lst xs, h => by
    simp only [eqOk] at h
    rw [toDat]; simp only [kqdOk]
    exact eqOks_kqd n xs h
  | n, .dik _, h => by cases n <;> simp [eqOk] at h
  | n, .dit _, h => by cases n <;> simp [eqOk] at h
  | n, .kls _, h => by cases n <;> simp [eqOk] at h
  | n, .ty _, h => by cases n <;> simp [eqOk] at h
  | n, .fdk _, h => by cases n <;> simp [eqOk] at h
  | n, .ftp _, h => by cases n <;> simp [eqOk] at h
  | n, .fls _, h => by cases n <;> simp [eqOk] at h
  | n, .fdt _, h => by cases n <;> simp [eqOk] at h
  | n, .obj _ _, h => by cases n <;> simp [eqOk] at h
  | n, .clo _ _, h => by cases n <;> simp [eqOk] at h
theorem eqOks_kqd : ∀ (n : Nat) (xs : List D), eqOks n xs = true → (toDats xs).all (kqdOk n) = true
  | _, [], _ => by simp [toDats]
  | n, d :: r, h => by
    simp only [eqOks, Bool.and_eq_true] at h
    rw [toDats, List.all_cons, eqOk_kqd n d h.1, eqOks_kqd n r h.2]; rfl
end
mutual
theorem toDat_inj : ∀ (n k : Nat) (a b : D), eqOk n a = true → eqOk k b = true → toDat a = toDat b → a = b
  | n, k, a, b, ha, hb, h => by
    cases a with
    | non => cases b <;> first | rfl | (simp [toDat] at h; done) | (cases k <;> simp [eqOk] at hb)
    | bl x => cases n <;> simp [eqOk] at ha
    | int x => cases b <;> first | (simp [toDat] at h; rw [h]) | (simp [toDat] at h)
    | str x => cases b <;> first | (simp [toDat] at h; rw [h]) | (simp [toDat] at h)
    | tup xs =>
      cases b with
      | tup ys =>
        cases n with
        | zero => simp [eqOk] at ha
        | succ n =>
          cases k with
          | zero => simp [eqOk] at hb
          | succ k =>
            simp only [eqOk] at ha hb
            simp only [toDat, Dat.tuple.injEq] at h
            rw [toDats_inj n k xs ys ha hb h]
      | _ => simp [toDat] at h
    | lst xs =>
      cases b with
      | lst ys =>
        cases n with
        | zero => simp [eqOk] at ha
        | succ n =>
          cases k with
          | zero => simp [eqOk] at hb
          | succ k =>
            simp only [eqOk] at ha hb
            simp only [toDat, Dat.list.injEq] at h
            rw [toDats_inj n k xs ys ha hb h]
      | _ => simp [toDat] at h
    | dik x => cases n <;> simp [eqOk] at ha
    | dit x => cases n <;> simp [eqOk] at ha
    | kls x => cases n <;> simp [eqOk] at ha
    | ty x => cases n <;> simp [eqOk] at ha
    | fdk x => cases n <;> simp [eqOk] at ha
    | ftp x => cases n <;> simp [eqOk] at ha
    | fls x => cases n <;> simp [eqOk] at ha
    | fdt x => cases n <;> simp [eqOk] at ha
    | obj x y => cases n <;> simp [eqOk] at ha
    | clo x y => cases n <;> simp [eqOk] at ha
theorem toDats_inj : ∀ (n k : Nat) (a b : List D), eqOks n a = true → eqOks k b = true → toDats a = toDats b → a = b
  | n, k, [], b, ha, hb, h => by
    cases b with
    | nil => rfl
    | cons => simp [toDats] at h
  | n, k, x :: a, b, ha, hb, h => by
    cases b with
    | nil => simp [toDats] at h
    | cons y b =>
      simp only [toDats, List.cons.injEq] at h
      simp only [eqOks, Bool.and_eq_true] at ha hb
      rw [toDat_inj n k x y ha.1 hb.1 h.1, toDats_inj n k a b ha.2 hb.2 h.2]
end
theorem Rep.dv {K : PySem.W.Frag} {H : Hp} {d : D} {v : V} {F : List Addr} (n : Nat) (r : Rep K H d v F) : eqOk n d = true → DV H v (toDat d) := by
  have no : ∀ {P : Prop} {n : Nat} {d : D}, (∀ n, eqOk n d = false) → eqOk n d = true → P := fun h h' => absurd ((h _).symm.trans h') (by simp)
  refine Rep.rec (motive_1 := fun d v _ _ => ∀ n, eqOk n d = true → DV H v (toDat d)) (motive_2 := fun d v _ _ => ∀ n, eqOks n d = true → DVs H v (toDats d)) (motive_3 := fun _ _ _ _ => True) (motive_4 := fun _ _ _ _ => True) ?_ ?_ ?_ ?_ ?_ ?_ ?_ ?_ ?_ ?_ ?_ ?_ ?_ ?_ ?_ ?_ ?_ ?_ trivial (fun _ _ _ _ => trivial) trivial (fun _ _ _ _ => trivial) r n
  · exact fun _ _ => by rw [toDat]; exact .non
  · exact fun b n => no fun n => by cases n <;> rfl
  · exact fun i _ _ => by rw [toDat]; exact .int i
  · exact fun i _ _ => by rw [toDat]; exact .str i
  · intro _ _ _ _ e _ ih n h
    cases n with
    | zero => simp [eqOk] at h
    | succ n => rw [eqOk] at h; rw [toDat]; exact .tup e (ih n h)
  · intro _ _ _ _ e _ ih n h
    cases n with
    | zero => simp [eqOk] at h
    | succ n => rw [eqOk] at h; rw [toDat]; exact .lst e (ih n h)
  · exact fun _ _ _ n => no fun n => by cases n <;> rfl
  · exact fun _ _ _ n => no fun n => by cases n <;> rfl
  · exact fun _ _ _ n => no fun n => by cases n <;> rfl
  · exact fun _ n => no fun n => by cases n <;> rfl
  · exact fun _ _ _ n => no fun n => by cases n <;> rfl
  · exact fun _ _ _ _ n => no fun n => by cases n <;> rfl
  · exact fun _ _ _ n => no fun n => by cases n <;> rfl
  · exact fun _ _ _ n => no fun n => by cases n <;> rfl
  · exact fun _ _ _ n => no fun n => by cases n <;> rfl
  · exact fun _ _ _ n => no fun n => by cases n <;> rfl
  · exact fun _ _ => by rw [toDats]; exact .nil
  · intro _ _ _ _ _ _ _ _ ih1 ih2 n q
    rw [eqOks, Bool.and_eq_true] at q
    rw [toDats]; exact .cons (ih1 n q.1) (ih2 n q.2)
theorem Reps.dv {K : PySem.W.Frag} {H : Hp} {d : List D} {v : List V} {F : List Addr} (n : Nat) (r : Reps K H d v F) (q : eqOks n d = true) : DVs H v (toDats d) := by
  induction d generalizing v F with
  | nil => cases r; rw [toDats]; exact .nil
  | cons d ds ih =>
    cases r with
    | cons h r =>
      rw [eqOks, Bool.and_eq_true] at q
      rw [toDats]; exact .cons (h.dv n q.1) (ih r q.2)
noncomputable def dAdd : G2
  | .int i, .int j, k => k (.int (i + j))
  | .str x, .str y, k => x.length + y.length ≤ sizeLine ∧ k (.str (x ++ y))
  | .tup xs, .tup ys, k => pureL xs = true ∧ pureL ys = true ∧ xs ≠ [] ∧ xs.length + ys.length ≤ sizeLine ∧ k (.tup (xs ++ ys))
  | .lst xs, .lst ys, k => pureL xs = true ∧ pureL ys = true ∧ xs.length + ys.length ≤ sizeLine ∧ k (.lst (xs ++ ys))
  | _, _, _ => False
noncomputable def dSub : G2
  | .int i, .int j, k => k (.int (i - j))
  | _, _, _ => False
noncomputable def dMul : G2
  | .int i, .int j, k => CMul i j ∧ k (.int (i * j))
  | .lst xs, .int n, k => pureL xs = true ∧ -(2 ^ 63) ≤ n ∧ n < 2 ^ 63 ∧ xs.length * n.toNat ≤ sizeLine ∧ k (.lst (List.replicate n.toNat xs).flatten)
  | _, _, _ => False
noncomputable def dDiv : G2
  | .int i, .int j, k => (0 < j ∧ j < 1073741824 ∧ k (.int (i / j))) ∨ (j < 0 ∧ j.natAbs < 1073741824 ∧ k (.int (i.fdiv j)))
  | _, _, _ => False
noncomputable def dMod : G2
  | .int i, .int j, k => (0 < j ∧ k (.int (i % j))) ∨ (j < 0 ∧ k (.int (i.fmod j)))
  | _, _, _ => False
noncomputable def dPow : G2
  | .int i, .int j, k => CPow i j ∧ k (.int (i ^ j.toNat))
  | _, _, _ => False
noncomputable def dEq : G2
  | .int i, .int j, k => k (.bl (decide (i = j)))
  | .bl i, .bl j, k => k (.bl (i == j))
  | .str i, .str j, k => k (.bl (decide (i = j)))
  | a, b, k => eqOk 9 a = true ∧ eqOk 9 b = true ∧ (a = b → k (.bl true)) ∧ (a ≠ b → k (.bl false))
noncomputable def dNe : G2
  | .int i, .int j, k => k (.bl (!decide (i = j)))
  | .bl i, .bl j, k => k (.bl (!(i == j)))
  | .str i, .str j, k => k (.bl (!decide (i = j)))
  | a, b, k => eqOk 9 a = true ∧ eqOk 9 b = true ∧ (a = b → k (.bl false)) ∧ (a ≠ b → k (.bl true))
noncomputable def dCmp (f : Int → Int → Bool) : G2
  | .int i, .int j, k => k (.bl (f i j))
  | _, _, _ => False
section
variable {X : Cx}
theorem rep_int {K : PySem.W.Frag} {H : Hp} {i : Int} {x : V} {F : List Addr} (r : Rep K H (.int i) x F) : x = .int i := by cases r; rfl
theorem Reps.flatten {K : PySem.W.Frag} {H : Hp} {ds : List D} {xs : List V} (r : Reps K H ds xs []) : ∀ n : Nat, Reps K H (List.replicate n ds).flatten (List.replicate n xs).flatten []
  | 0 => .nil
  | n + 1 => by
    have := r.append (Reps.flatten r n)
    simpa [List.replicate_succ, List.flatten_cons] using this
theorem dAdd_inv {a b : D} {k : D → Prop} (g : dAdd a b k) : (∃ i j, a = .int i ∧ b = .int j) ∨ (∃ i j, a = .str i ∧ b = .str j) ∨ (∃ i j, a = .tup i ∧ b = .tup j) ∨ ∃ i j, a = .lst i ∧ b = .lst j := by
  cases a with
  | int i => cases b with
    | int j => exact .inl ⟨i, j, rfl, rfl⟩
    | _ => exact (show False from g).elim
  | str i => cases b with
    | str j => exact .inr (.inl ⟨i, j, rfl, rfl⟩)
    | _ => exact (show False from g).elim
  | tup i => cases b with
    | tup j => exact .inr (.inr (.inl ⟨i, j, rfl, rfl⟩))
    | _ => exact (show False from g).elim
  | lst i => cases b with
    | lst j => exact .inr (.inr (.inr ⟨i, j, rfl, rfl⟩))
    | _ => exact (show False from g).elim
  | _ => exact (show False from g).elim
theorem od_add : OpD X (binaryOp .Add) dAdd := by
  refine ⟨_, OpR.or op_add (OpR.or op_cat (OpR.or op_catT op_add_str)), fun H a b x y F1 F2 k Q ra rb g q => ?_⟩
  rcases dAdd_inv g with ⟨i, j, rfl, rfl⟩ | ⟨i, j, rfl, rfl⟩ | ⟨ds, es, rfl, rfl⟩ | ⟨ds, es, rfl, rfl⟩
  · exact .inl ⟨_, _, ra.iInt, rb.iInt, q _ _ _ _ (.flat (.int _)) g⟩
  · exact .inr (.inr (.inr ⟨_, _, ra.iStr, rb.iStr, g.1, q _ _ _ _ (.flat (.str _)) g.2⟩))
  · obtain ⟨a, xs, rfl, e1, r1⟩ := ra.iTup
    obtain ⟨b, ys, rfl, e2, r2⟩ := rb.iTup
    obtain ⟨p1, p2, hne, hz, g⟩ := g
    obtain ⟨-, r1⟩ := r1.pure p1
    obtain ⟨-, r2⟩ := r2.pure p2
    have l1 := r1.length
    have l2 := r2.length
    refine .inr (.inr (.inl ⟨a, b, xs, ys, rfl, rfl, .of e1, .of e2, fun z => hne (List.length_eq_zero_iff.mp (by rw [← l1, z]; rfl)), by omega, fun z => ?_, fun z p hp => ?_⟩))
    · have : es = [] := List.length_eq_zero_iff.mp (by rw [← l2, z]; rfl)
      subst this
      rw [List.append_nil] at g
      exact q _ _ _ _ (.flat (.tup e1 r1)) g
    · refine q _ _ _ [] ⟨same_upd hp, .tup upd_same ?_, List.nodup_nil, fun _ m => nomatch m⟩ g
      exact (r1.append r2).same (same_upd hp)
  · obtain ⟨a, xs, _, rfl, _, e1, r1⟩ := ra.iLst
    obtain ⟨b, ys, _, rfl, _, e2, r2⟩ := rb.iLst
    obtain ⟨p1, p2, hz, g⟩ := g
    obtain ⟨-, r1⟩ := r1.pure p1
    obtain ⟨-, r2⟩ := r2.pure p2
    have l1 := r1.length
    have l2 := r2.length
    refine .inr (.inl ⟨a, b, xs, ys, rfl, rfl, e1, e2, by omega, fun p hp => ?_⟩)
    refine q _ _ _ [p] ⟨same_upd hp, .lst upd_same ((r1.append r2).same (same_upd hp)), by simp, fun c m => by rw [List.mem_singleton.mp m]; exact hp⟩ g
theorem od_sub : OpD X (binaryOp .Sub) dSub := by
  refine ⟨_, op_sub, fun H a b x y F1 F2 k Q ra rb g q => ?_⟩
  (cases ra <;> first | exact (show False from g).elim | skip) <;> (cases rb <;> first | exact (show False from g).elim | skip)
  exact ⟨_, _, rfl, rfl, q _ _ _ _ (.flat (.int _)) g⟩
theorem dMul_inv {a b : D} {k : D → Prop} (g : dMul a b k) : (∃ i j, a = .int i ∧ b = .int j) ∨ ∃ i j, a = .lst i ∧ b = .int j := by
  cases a with
  | int i => cases b with
    | int j => exact .inl ⟨i, j, rfl, rfl⟩
    | _ => exact (show False from g).elim
  | lst i => cases b with
    | int j => exact .inr ⟨i, j, rfl, rfl⟩
    | _ => exact (show False from g).elim
  | _ => exact (show False from g).elim
theorem od_mul : OpD X (binaryOp .Mult) dMul := by
  refine ⟨_, OpR.or op_mul op_rep, fun H a b x y F1 F2 k Q ra rb g q => ?_⟩
  rcases dMul_inv g with ⟨i, j, rfl, rfl⟩ | ⟨ds, n, rfl, rfl⟩
  · exact .inl ⟨_, _, ra.iInt, rb.iInt, g.1, q _ _ _ _ (.flat (.int _)) g.2⟩
  · obtain ⟨a, xs, _, rfl, _, e1, r1⟩ := ra.iLst
    obtain rfl := rb.iInt
    obtain ⟨p1, h1, h2, hz, g⟩ := g
    obtain ⟨-, r1⟩ := r1.pure p1
    have l1 := r1.length
    refine .inr ⟨a, n, xs, rfl, rfl, e1, h1, h2, by rw [l1]; exact hz, fun p hp => ?_⟩
    refine q _ _ _ [p] ⟨same_upd hp, .lst upd_same ((r1.flatten _).same (same_upd hp)), by simp, fun c m => by rw [List.mem_singleton.mp m]; exact hp⟩ g
theorem od_div : OpD X (binaryOp .FloorDiv) dDiv := by
  refine ⟨_, OpR.or op_fdiv op_fdivN, fun H a b x y F1 F2 k Q ra rb g q => ?_⟩
  (cases ra <;> first | exact (show False from g).elim | skip) <;> (cases rb <;> first | exact (show False from g).elim | skip)
  rcases (show _ ∨ _ from g) with ⟨h1, h2, g⟩ | ⟨h1, h2, g⟩
  · exact .inl ⟨_, _, rfl, rfl, ⟨h1, h2⟩, q _ _ _ _ (.flat (.int _)) g⟩
  · exact .inr ⟨_, _, rfl, rfl, ⟨by omega, h2⟩, q _ _ _ _ (.flat (.int _)) g⟩
theorem od_mod : OpD X (binaryOp .Mod) dMod := by
  refine ⟨_, OpR.or op_mod op_modN, fun H a b x y F1 F2 k Q ra rb g q => ?_⟩
  (cases ra <;> first | exact (show False from g).elim | skip) <;> (cases rb <;> first | exact (show False from g).elim | skip)
  rcases (show _ ∨ _ from g) with ⟨h1, g⟩ | ⟨h1, g⟩
  · exact .inl ⟨_, _, rfl, rfl, h1, q _ _ _ _ (.flat (.int _)) g⟩
  · exact .inr ⟨_, _, rfl, rfl, by omega, q _ _ _ _ (.flat (.int _)) g⟩
theorem od_pow : OpD X (binaryOp .Pow) dPow := by
  refine ⟨_, op_pow, fun H a b x y F1 F2 k Q ra rb g q => ?_⟩
  (cases ra <;> first | exact (show False from g).elim | skip) <;> (cases rb <;> first | exact (show False from g).elim | skip)
  exact ⟨_, _, rfl, rfl, g.1, q _ _ _ _ (.flat (.int _)) g.2⟩
theorem od_cmpI {op : CmpOp} {f : Int → Int → Bool} (h : OpR X (compareOp op) (rI0 fun i j => .bl (f i j))) : OpD X (compareOp op) (dCmp f) := by
  refine ⟨_, h, fun H a b x y F1 F2 k Q ra rb g q => ?_⟩
  (cases ra <;> first | exact (show False from g).elim | skip) <;> (cases rb <;> first | exact (show False from g).elim | skip)
  exact ⟨_, _, rfl, rfl, q _ _ _ _ (.flat (.bl _)) g⟩
theorem od_lt : OpD X (compareOp .Lt) (dCmp fun i j => decide (i < j)) := od_cmpI op_lt
theorem od_le : OpD X (compareOp .LtE) (dCmp fun i j => decide (i ≤ j)) := od_cmpI op_le
theorem od_gt : OpD X (compareOp .Gt) (dCmp fun i j => decide (j < i)) := od_cmpI op_gt
theorem od_ge : OpD X (compareOp .GtE) (dCmp fun i j => decide (j ≤ i)) := od_cmpI op_ge
theorem eq_nest {H : Hp} {a b : D} {x y : V} {F1 F2 : List Addr} {k : D → Prop} {Q : VK} {neg : Bool} (ra : Rep X.K H a x F1) (rb : Rep X.K H b y F2)
    (h1 : eqOk 9 a = true) (h2 : eqOk 9 b = true) (g1 : a = b → k (.bl (!neg))) (g2 : a ≠ b → k (.bl neg)) (q : ∀ v H' d F, Fin X.K H H' d v F → k d → Q v H') : rDat neg x y H Q := by
  refine ⟨toDat a, toDat b, 9, ra.dv 9 h1, rb.dv 9 h2, eqOk_kqd _ _ h1, eqOk_kqd _ _ h2, Nat.le_refl _, fun e => ?_, fun e => ?_⟩
  · exact q _ _ _ _ (.flat (.bl _)) (g1 (toDat_inj 9 9 a b h1 h2 e))
  · exact q _ _ _ _ (.flat (.bl _)) (g2 fun z => e (by rw [z]))
theorem dEq_inv {a b : D} {k : D → Prop} (g : dEq a b k) : (∃ i j, a = .int i ∧ b = .int j) ∨ (∃ i j, a = .bl i ∧ b = .bl j) ∨ (∃ i j, a = .str i ∧ b = .str j) ∨ (eqOk 9 a = true ∧ eqOk 9 b = true ∧ (a = b → k (.bl true)) ∧ (a ≠ b → k (.bl false))) := by
  cases a with
  | int i => cases b with
    | int j => exact .inl ⟨i, j, rfl, rfl⟩
    | _ => exact .inr (.inr (.inr g))
  | bl i => cases b with
    | bl j => exact .inr (.inl ⟨i, j, rfl, rfl⟩)
    | _ => exact .inr (.inr (.inr g))
  | str i => cases b with
    | str j => exact .inr (.inr (.inl ⟨i, j, rfl, rfl⟩))
    | _ => exact .inr (.inr (.inr g))
  | _ => exact .inr (.inr (.inr g))
theorem od_eq (hu : X.A.units + 64 < cLine) : OpD X (compareOp .Eq) dEq := by
  refine ⟨_, OpR.or op_eq (op_eqD hu), fun H a b x y F1 F2 k Q ra rb g q => ?_⟩
  rcases dEq_inv g with ⟨i, j, rfl, rfl⟩ | ⟨i, j, rfl, rfl⟩ | ⟨i, j, rfl, rfl⟩ | ⟨h1, h2, g1, g2⟩
  · obtain rfl := ra.iInt
    obtain rfl := rb.iInt
    refine .inl ⟨rfl, ?_⟩
    have e : decide (V.int i = V.int j) = decide (i = j) := by simp
    rw [e]
    exact q _ _ _ _ (.flat (.bl _)) g
  · obtain rfl := ra.iBl
    obtain rfl := rb.iBl
    refine .inl ⟨rfl, ?_⟩
    rw [dec_bl]
    exact q _ _ _ _ (.flat (.bl _)) g
  · obtain rfl := ra.iStr
    obtain rfl := rb.iStr
    refine .inl ⟨rfl, ?_⟩
    have e : decide (V.str i = V.str j) = decide (i = j) := by simp
    rw [e]
    exact q _ _ _ _ (.flat (.bl _)) g
  · exact .inr (eq_nest ra rb h1 h2 g1 g2 q)
theorem dNe_inv {a b : D} {k : D → Prop} (g : dNe a b k) : (∃ i j, a = .int i ∧ b = .int j) ∨ (∃ i j, a = .bl i ∧ b = .bl j) ∨ (∃ i j, a = .str i ∧ b = .str j) ∨ (eqOk 9 a = true ∧ eqOk 9 b = true ∧ (a = b → k (.bl false)) ∧ (a ≠ b → k (.bl true))) := by
  cases a with
  | int i => cases b with
    | int j => exact .inl ⟨i, j, rfl, rfl⟩
    | _ => exact .inr (.inr (.inr g))
  | bl i => cases b with
    | bl j => exact .inr (.inl ⟨i, j, rfl, rfl⟩)
    | _ => exact .inr (.inr (.inr g))
  | str i => cases b with
    | str j => exact .inr (.inr (.inl ⟨i, j, rfl, rfl⟩))
    | _ => exact .inr (.inr (.inr g))
  | _ => exact .inr (.inr (.inr g))
theorem od_ne (hu : X.A.units + 64 < cLine) : OpD X (compareOp .NotEq) dNe := by
  refine ⟨_, OpR.or op_ne (op_neD hu), fun H a b x y F1 F2 k Q ra rb g q => ?_⟩
  rcases dNe_inv g with ⟨i, j, rfl, rfl⟩ | ⟨i, j, rfl, rfl⟩ | ⟨i, j, rfl, rfl⟩ | ⟨h1, h2, g1, g2⟩
  · obtain rfl := ra.iInt
    obtain rfl := rb.iInt
    refine .inl ⟨rfl, ?_⟩
    have e : (!decide (V.int i = V.int j)) = !decide (i = j) := by simp
    rw [e]
    exact q _ _ _ _ (.flat (.bl _)) g
  · obtain rfl := ra.iBl
    obtain rfl := rb.iBl
    refine .inl ⟨rfl, ?_⟩
    rw [dec_bl]
    exact q _ _ _ _ (.flat (.bl _)) g
  · obtain rfl := ra.iStr
    obtain rfl := rb.iStr
    refine .inl ⟨rfl, ?_⟩
    have e : (!decide (V.str i = V.str j)) = !decide (i = j) := by simp
    rw [e]
    exact q _ _ _ _ (.flat (.bl _)) g
  · exact .inr (eq_nest (neg := true) ra rb h1 h2 g1 g2 q)
noncomputable def dNeg : D → (D → Prop) → Prop
  | .int i, k => k (.int (-i))
  | _, _ => False
theorem ud_neg : UnD X (unaryOp .USub) dNeg := by
  refine ⟨_, un_neg, fun H a x F1 k Q ra g q => ?_⟩
  cases ra <;> try exact (show False from g).elim
  exact ⟨_, rfl, q _ _ _ _ (.flat (.int _)) g⟩
end
end PV
set_option Elab.async false
set_option linter.all false
set_option maxRecDepth 100000
set_option maxHeartbeats 4000000
namespace PV
open PySem PySem.Spec L2
open PyProof.Rows (subscriptTail)
noncomputable def keysOf : List D → Option (List Key)
  | [] => some []
  | .int i :: r => (keysOf r).map fun l => .inl i :: l
  | .str x :: r => (keysOf r).map fun l => .inr x :: l
  | _ :: _ => none
theorem Reps.keys {K : PySem.W.Frag} {H : Hp} : ∀ {ds : List D} {xs : List V} {F : List Addr} {l : List Key}, Reps K H ds xs F → keysOf ds = some l → xs = l.map kV
  | [], _, _, _, r, h => by
    cases r
    simp only [keysOf, Option.some.injEq] at h
    subst h
    rfl
  | d :: ds, _, _, _, r, h => by
    cases r with
    | cons p r =>
      cases d with
      | int i =>
        simp only [keysOf, Option.map_eq_some_iff] at h
        obtain ⟨l', h1, rfl⟩ := h
        cases p
        rw [Reps.keys r h1]
        rfl
      | str i =>
        simp only [keysOf, Option.map_eq_some_iff] at h
        obtain ⟨l', h1, rfl⟩ := h
        cases p
        rw [Reps.keys r h1]
        rfl
      | _ => simp [keysOf] at h
theorem Reps.atI {K : PySem.W.Frag} {H : Hp} {ds : List D} {xs : List V} {F : List Addr} {i : Int} {d : D} (r : Reps K H ds xs F) (h : L2.atI ds i = some d) : ∃ x B, L2.atI xs i = some x ∧ Rep K H d x B ∧ B.Sublist F := by
  unfold L2.atI at h
  cases hj : ixN ds.length i with
  | none => rw [hj] at h; cases h
  | some j =>
    rw [hj] at h
    obtain ⟨x, B, h1, h2, h3⟩ := r.get (i := j) h
    refine ⟨x, B, ?_, h2, h3⟩
    unfold L2.atI
    rw [r.length, hj]
    exact h1
noncomputable def oget {α : Type} (o : Option α) (k : α → Prop) : Prop := match o with
  | some d => k d
  | none => False
noncomputable def onI (b : D) (k : Int → Prop) : Prop := match b with
  | .int i => k i
  | _ => False
noncomputable def onK (b : D) (k : Key → Prop) : Prop := match b with
  | .int i => k (.inl i)
  | .str i => k (.inr i)
  | _ => False
noncomputable def onT (b : D) (k : List D → Prop) : Prop := match b with
  | .tup l => k l
  | _ => False
theorem onI_inv {b : D} {k : Int → Prop} (h : onI b k) : ∃ i, b = .int i ∧ k i := by
  cases b with
  | int i => exact ⟨i, rfl, h⟩
  | _ => exact (show False from h).elim
theorem onT_inv {b : D} {k : List D → Prop} (h : onT b k) : ∃ i, b = .tup i ∧ k i := by
  cases b with
  | tup i => exact ⟨i, rfl, h⟩
  | _ => exact (show False from h).elim
theorem onK_inv {b : D} {k : Key → Prop} (h : onK b k) : ∃ key, k key ∧ ∀ {K : PySem.W.Frag} {H : Hp} {v : V} {F : List Addr}, Rep K H b v F → v = kV key := by
  cases b with
  | int i => exact ⟨.inl i, h, fun r => r.iInt⟩
  | str i => exact ⟨.inr i, h, fun r => r.iStr⟩
  | _ => exact (show False from h).elim
noncomputable def dIx : G2 := fun a b k => match a with
  | .lst xs => onI b fun i => oget (L2.atI xs i) k
  | .tup xs => onI b fun i => oget (L2.atI xs i) k
  | .kls xs => onI b fun i => oget (L2.atI xs i) k
  | .str z => onI b fun i => z.length ≤ sizeLine ∧ oget (L2.atI z.cps.toList i) fun c => k (.str ⟨#[c]⟩)
  | .dik kvs => onK b fun key => oget (valD kvs key) k
  | .dit kvs => onT b fun l => oget (keysOf l) fun ks => oget (valD kvs ks) k
  | .fdk kvs => onK b fun key => oget (valD kvs key) k
  | _ => False
theorem oget_some {α : Type} {o : Option α} {k : α → Prop} (h : oget o k) : ∃ d, o = some d ∧ k d := by
  cases o with
  | none => exact h.elim
  | some d => exact ⟨d, rfl, h⟩
section
variable {X : Cx}
theorem tail_dict {prog : Program} {w : World} {A : Around} {E : Value → Shared → Prop} {s₂ : Shared} {value slice : Expr} {o i : Value} {T id : String} {Q : Value → Shared → Prop}
    (hl : typeLookup (.type T) "__getitem__" = pure (some (.builtin id))) (hs : subscripted slice false o i = operate [o, i] (getItem o i)) (hT : s₂.TypeIs o T) (h₂ : wpAny (model prog w) A (getItem o i) Q E s₂) :
    wpAny (model prog w) A (subscriptTail value slice o i) Q E s₂ := by
  unfold subscriptTail
  refine wpAny_bind ?_
  rw [getitemInPython_of_ne hT.not_modules]
  refine wpAny_bind (wpAny_specialOf hT hl ?_)
  have fin : wpAny (model prog w) A (subscripted slice false o i) (fun r s₃ => wpAny (model prog w) A (letTemporaryGo value o r >>= fun _ => pure r) Q E s₃) E s₂ := by
    rw [hs]
    exact wpAny_operating (wpAny_mono h₂ (fun r s₃ h₃ => wpAny_bind (wpAny_letTemporaryGo (wpAny_pure h₃))) fun _ _ x => x)
  first
    | exact wpAny_pure (wpAny_bind fin)
    | exact wpAny_bind (wpAny_pure (wpAny_bind fin))
    | exact wpAny_bind fin
theorem ix_dict (hu : X.A.units + 1 < cLine) : IxR X (fun x y H Q => ∃ a v, x = .ref a ∧ DGet H a y (some v) ∧ Q v H) := by
  intro value slice pins s σ H x y v u Q I rx ry h hs
  obtain ⟨a, z, rfl, g, q⟩ := h
  cases rx
  exact tail_dict PySem.F.slot_dict_getitem.lookup hs (dict_typeIs I g) (d_getItem hu I g ry fun w' s3 I3 rw' => ⟨z, H, I3, rw', q⟩)
noncomputable def IxD (X : Cx) (g : G2) : Prop :=
  ∃ r, IxR X r ∧ ∀ (H : Hp) (a b : D) (x y : V) (F1 F2 : List Addr) (k : D → Prop) (Q : VK), Rep X.K H a x F1 → Rep X.K H b y F2 → g a b k →
    (∀ v d F, Rep X.K H d v F → F.Sublist F1 → k d → Q v H) → r x y H Q
theorem xd_ix (hu : X.A.units + 1 < cLine) : IxD X dIx := by
  refine ⟨_, IxR.or ix_seq (ix_dict hu), fun H a b x y F1 F2 k Q ra rb g q => ?_⟩
  cases a with
  | str z =>
    obtain ⟨i, rfl, hz, g⟩ := onI_inv g
    obtain ⟨c, e, g⟩ := oget_some g
    exact .inl (.inr (.inr ⟨_, _, c, ra.iStr, rb.iInt, hz, e, q _ _ _ (.str _) (List.nil_sublist _) g⟩))
  | tup ds =>
    obtain ⟨i, rfl, g⟩ := onI_inv g
    obtain ⟨a, xs, rfl, e, r⟩ := ra.iTup
    obtain ⟨d, h, g⟩ := oget_some g
    obtain ⟨v, B, h1, h2, h3⟩ := r.atI h
    exact .inl (.inr (.inl ⟨a, xs, i, v, rfl, rb.iInt, .of e, h1, q _ _ _ h2 h3 g⟩))
  | lst ds =>
    obtain ⟨i, rfl, g⟩ := onI_inv g
    obtain ⟨a, xs, G, rfl, rfl, e, r⟩ := ra.iLst
    obtain ⟨d, h, g⟩ := oget_some g
    obtain ⟨v, B, h1, h2, h3⟩ := r.atI h
    exact .inl (.inl ⟨a, xs, i, v, rfl, rb.iInt, .of e, h1, q _ _ _ h2 (h3.trans (List.sublist_cons_self _ _)) g⟩)
  | dik ds =>
    obtain ⟨key, g, hy⟩ := onK_inv (show onK b (fun key => oget (valD ds key) k) from g)
    obtain ⟨a, kvs, G, rfl, rfl, e, r⟩ := ra.iDik
    obtain rfl := hy rb
    obtain ⟨d, h, g⟩ := oget_some g
    rcases r.val key with ⟨z, _⟩ | ⟨d', v, B, h1, h2, h3, h4⟩
    · rw [h] at z; cases z
    · rw [h] at h1; cases h1
      exact .inr ⟨a, v, rfl, h2 ▸ DGet.k (k := key) e, q _ _ _ h3 (h4.trans (List.sublist_cons_self _ _)) g⟩
  | dit ds =>
    obtain ⟨l, rfl, g⟩ := onT_inv g
    obtain ⟨a, kvs, G, rfl, rfl, e, r⟩ := ra.iDit
    obtain ⟨b, xs, rfl, e2, r2⟩ := rb.iTup
    obtain ⟨ks, hk, g⟩ := oget_some g
    obtain ⟨d, h, g⟩ := oget_some g
    have hx := r2.keys hk
    subst hx
    rcases r.val ks with ⟨z, _⟩ | ⟨d', v, B, h1, h2, h3, h4⟩
    · rw [h] at z; cases z
    · rw [h] at h1; cases h1
      exact .inr ⟨a, v, rfl, h2 ▸ DGet.t (k := ks) e e2, q _ _ _ h3 (h4.trans (List.sublist_cons_self _ _)) g⟩
  | kls ds =>
    obtain ⟨i, rfl, g⟩ := onI_inv g
    obtain ⟨a, xs, rfl, rfl, e, r⟩ := ra.iKls
    obtain ⟨d, h, g⟩ := oget_some g
    obtain ⟨v, B, h1, h2, h3⟩ := r.atI h
    exact .inl (.inl ⟨a, xs, i, v, rfl, rb.iInt, e.sq, h1, q _ _ _ h2 h3 g⟩)
  | fdk ds =>
    obtain ⟨key, g, hy⟩ := onK_inv (show onK b (fun key => oget (valD ds key) k) from g)
    obtain ⟨a, ob, kvs, rfl, e, r⟩ := ra.iFdk
    obtain rfl := hy rb
    obtain ⟨d, h, g⟩ := oget_some g
    rcases r.val key with ⟨z, _⟩ | ⟨d', v, B, h1, h2, h3, h4⟩
    · rw [h] at z; cases z
    · rw [h] at h1; cases h1
      exact .inr ⟨a, v, rfl, .inl ⟨kvs, key, .inr ⟨ob, e⟩, rfl, h2.symm⟩, q _ _ _ h3 h4 g⟩
  | _ => exact (show False from g).elim
variable {T : Tg} {m o m1 m2 m3 o1 o2 : Bool} {e a b : Expr} {w wa wb : WE} {pos p2 : Pos}
theorem ev_ix {g : G2} (hg : IxD X g) (ha : EV X T m1 o1 a wa) (hb : EV X T m2 o2 b wb) (hc : o1 = true ∨ m2 = false := by first | exact .inl rfl | exact .inr rfl) (hs : PlainIx b := by intro _ _; rfl) :
    EV X T (m1 || m2) o1 (.Subscript a b pos) (wBin g wa wb) := by
  obtain ⟨r, ro, gr⟩ := hg
  obtain ⟨ta, pa, ga⟩ := ha
  obtain ⟨tb, pb, gb⟩ := hb
  refine ⟨_, pe_ix ro pa pb hs, fun z R σ H W ρ Q Q' s hw k => ?_⟩
  refine two ga gb hc s hw fun x y H2 W2 d1 d2 ρ2 F1 F2 s2 f2 c2 r1 r2 o1 _ _ q2 => ?_
  exact gr H2 d1 d2 x y F1 F2 _ Q' r1 r2 q2 fun v d F rd sub hk => k v H2 W2 d ρ2 F ⟨s2, f2, c2, rd, fun h => ⟨(o1 h).1.sublist sub, fun a m => (o1 h).2 a (sub.subset m)⟩⟩ hk
noncomputable def inD : D → List D → Option Bool
  | .int i, [] => some false
  | .int i, .int j :: r => (inD (.int i) r).map fun b => (j == i) || b
  | .str i, [] => some false
  | .str i, .str j :: r => (inD (.str i) r).map fun b => (j == i) || b
  | _, _ => none
noncomputable def dIn (neg : Bool) : G2
  | .int i, .dik kvs, k => k (.bl (xor neg (valD kvs (.inl i)).isSome))
  | .str i, .dik kvs, k => k (.bl (xor neg (valD kvs (.inr i)).isSome))
  | .tup l, .dit kvs, k => oget (keysOf l) fun ks => k (.bl (xor neg (valD kvs ks).isSome))
  | .int i, .lst xs, k => oget (inD (.int i) xs) fun b => k (.bl (xor neg b))
  | .int i, .tup xs, k => oget (inD (.int i) xs) fun b => k (.bl (xor neg b))
  | .str i, .lst xs, k => oget (inD (.str i) xs) fun b => k (.bl (xor neg b))
  | .str i, .tup xs, k => oget (inD (.str i) xs) fun b => k (.bl (xor neg b))
  | .str i, .str j, k => k (.bl (xor neg (!(Builtin.Str.occurrences j i 0 j.length 1).isEmpty)))
  | _, _, _ => False
theorem inD_int {K : PySem.W.Frag} {H : Hp} {i : Int} : ∀ {ds : List D} {xs : List V} {F : List Addr} {b : Bool}, Reps K H ds xs F → inD (.int i) ds = some b → xs.all flatV = true ∧ inV (.int i) xs = b
  | [], _, _, _, r, h => by
    cases r
    simp only [inD, Option.some.injEq] at h
    subst h
    exact ⟨rfl, rfl⟩
  | d :: ds, _, _, _, r, h => by
    cases r with
    | cons p r =>
      cases d with
      | int j =>
        simp only [inD, Option.map_eq_some_iff] at h
        obtain ⟨b', h1, rfl⟩ := h
        cases p
        obtain ⟨e1, e2⟩ := inD_int r h1
        refine ⟨by rw [List.all_cons, e1]; rfl, ?_⟩
        unfold inV at e2 ⊢
        rw [List.any_cons, e2]
        rfl
      | _ => simp [inD] at h
theorem inD_str {K : PySem.W.Frag} {H : Hp} {i : Str} : ∀ {ds : List D} {xs : List V} {F : List Addr} {b : Bool}, Reps K H ds xs F → inD (.str i) ds = some b → xs.all flatV = true ∧ inV (.str i) xs = b
  | [], _, _, _, r, h => by
    cases r
    simp only [inD, Option.some.injEq] at h
    subst h
    exact ⟨rfl, rfl⟩
  | d :: ds, _, _, _, r, h => by
    cases r with
    | cons p r =>
      cases d with
      | str j =>
        simp only [inD, Option.map_eq_some_iff] at h
        obtain ⟨b', h1, rfl⟩ := h
        cases p
        obtain ⟨e1, e2⟩ := inD_str r h1
        refine ⟨by rw [List.all_cons, e1]; rfl, ?_⟩
        unfold inV at e2 ⊢
        rw [List.any_cons, e2]
        rfl
      | _ => simp [inD] at h
theorem op_dict (neg : Bool) (hu : X.A.units + 1 < cLine) : OpR X (compareOp (if neg then .NotIn else .In)) (fun y x H Q => ∃ a o, x = .ref a ∧ DGet H a y o ∧ Q (.bl (xor neg o.isSome)) H) := by
  intro pins s σ H y x u v Q I ry rx h
  obtain ⟨a, ov, rfl, g, q⟩ := h
  cases rx
  cases neg with
  | false => exact d_in hu I g ry fun s3 I3 => ⟨.bl ov.isSome, H, I3, rfl, by simpa using q⟩
  | true => exact d_notIn hu I g ry fun s3 I3 => ⟨.bl (!ov.isSome), H, I3, rfl, by simpa using q⟩
theorem op_inseq (neg : Bool) : OpR X (compareOp (if neg then .NotIn else .In)) (rIn X.K neg) := by
  cases neg with
  | false => exact op_in_seq
  | true => exact op_notIn_seq
theorem op_instr (neg : Bool) : OpR X (compareOp (if neg then .NotIn else .In)) (fun x y H Q => ∃ i j, x = .str i ∧ y = .str j ∧ Q (.bl (xor neg (!(Builtin.Str.occurrences j i 0 j.length 1).isEmpty))) H) := by
  cases neg with
  | false => simpa using op_in_str (X := X)
  | true => simpa using op_notIn_str (X := X)
theorem repk_dget {H : Hp} {a : Addr} {kvs : List (Key × V)} {ds : List (Key × D)} {F : List Addr} {k : Key} (e : H a = some (.dK kvs)) (r : RepK X.K H ds kvs F) : ∃ o, DGet H a (kV k) o ∧ o.isSome = (valD ds k).isSome := by
  refine ⟨_, DGet.k (k := k) e, ?_⟩
  rcases r.val k with ⟨h1, h2⟩ | ⟨d, v, B, h1, h2, _⟩ <;> simp [h1, h2]
theorem dIn_inv {neg : Bool} {a b : D} {k : D → Prop} (g : dIn neg a b k) : (∃ i z, a = .int i ∧ b = .tup z) ∨ (∃ i z, a = .int i ∧ b = .lst z) ∨ (∃ i z, a = .int i ∧ b = .dik z) ∨ (∃ i z, a = .str i ∧ b = .str z) ∨ (∃ i z, a = .str i ∧ b = .tup z) ∨ (∃ i z, a = .str i ∧ b = .lst z) ∨ (∃ i z, a = .str i ∧ b = .dik z) ∨ ∃ i z, a = .tup i ∧ b = .dit z := by
  cases a with
  | int i => cases b with
    | tup z => exact .inl ⟨i, z, rfl, rfl⟩
    | lst z => exact .inr (.inl ⟨i, z, rfl, rfl⟩)
    | dik z => exact .inr (.inr (.inl ⟨i, z, rfl, rfl⟩))
    | _ => exact (show False from g).elim
  | str i => cases b with
    | str z => exact .inr (.inr (.inr (.inl ⟨i, z, rfl, rfl⟩)))
    | tup z => exact .inr (.inr (.inr (.inr (.inl ⟨i, z, rfl, rfl⟩))))
    | lst z => exact .inr (.inr (.inr (.inr (.inr (.inl ⟨i, z, rfl, rfl⟩)))))
    | dik z => exact .inr (.inr (.inr (.inr (.inr (.inr (.inl ⟨i, z, rfl, rfl⟩))))))
    | _ => exact (show False from g).elim
  | tup i => cases b with
    | dit z => exact .inr (.inr (.inr (.inr (.inr (.inr (.inr ⟨i, z, rfl, rfl⟩))))))
    | _ => exact (show False from g).elim
  | _ => exact (show False from g).elim
theorem od_in' (neg : Bool) (hu : X.A.units + 1 < cLine) : OpD X (compareOp (if neg then .NotIn else .In)) (dIn neg) := by
  refine ⟨_, OpR.or (op_dict neg hu) (OpR.or (op_inseq neg) (op_instr neg)), fun H a b x y F1 F2 k Q ra rb g q => ?_⟩
  have seqI : ∀ {i : Int} {p : Addr} {ds : List D} {xs : List V} {F : List Addr}, x = .int i → y = .ref p → Reps X.K H ds xs F → (SqL X.K H p xs ∨ SqT X.K H p xs) → oget (inD (.int i) ds) (fun b => k (.bl (xor neg b))) → rIn X.K neg x y H Q := fun {i p ds xs F} ex ey r hs g => by
    subst ex ey
    obtain ⟨b, h, g⟩ := oget_some g
    obtain ⟨e1, e2⟩ := inD_int r h
    refine ⟨p, xs, rfl, hs, rfl, e1, ?_⟩
    rw [e2]
    have := q _ _ _ _ (.flat (.bl _)) g
    cases neg <;> simpa using this
  have seqS : ∀ {i : Str} {p : Addr} {ds : List D} {xs : List V} {F : List Addr}, x = .str i → y = .ref p → Reps X.K H ds xs F → (SqL X.K H p xs ∨ SqT X.K H p xs) → oget (inD (.str i) ds) (fun b => k (.bl (xor neg b))) → rIn X.K neg x y H Q := fun {i p ds xs F} ex ey r hs g => by
    subst ex ey
    obtain ⟨b, h, g⟩ := oget_some g
    obtain ⟨e1, e2⟩ := inD_str r h
    refine ⟨p, xs, rfl, hs, rfl, e1, ?_⟩
    rw [e2]
    have := q _ _ _ _ (.flat (.bl _)) g
    cases neg <;> simpa using this
  rcases dIn_inv g with ⟨i, z, rfl, rfl⟩ | ⟨i, z, rfl, rfl⟩ | ⟨i, ds, rfl, rfl⟩ | ⟨i, z, rfl, rfl⟩ | ⟨i, z, rfl, rfl⟩ | ⟨i, z, rfl, rfl⟩ | ⟨i, ds, rfl, rfl⟩ | ⟨l, ds, rfl, rfl⟩
  · obtain ⟨p, xs, ey, e, r⟩ := rb.iTup
    exact .inr (.inl (seqI ra.iInt ey r (.inr (.of e)) g))
  · obtain ⟨p, xs, G, ey, _, e, r⟩ := rb.iLst
    exact .inr (.inl (seqI ra.iInt ey r (.inl (.of e)) g))
  · obtain ⟨a, kvs, G, rfl, _, e, r⟩ := rb.iDik
    obtain rfl := ra.iInt
    obtain ⟨o, h1, h2⟩ := repk_dget (k := .inl i) e r
    refine .inl ⟨a, o, rfl, h1, ?_⟩
    rw [h2]
    exact q _ _ _ _ (.flat (.bl _)) g
  · exact .inr (.inr ⟨_, _, ra.iStr, rb.iStr, q _ _ _ _ (.flat (.bl _)) g⟩)
  · obtain ⟨p, xs, ey, e, r⟩ := rb.iTup
    exact .inr (.inl (seqS ra.iStr ey r (.inr (.of e)) g))
  · obtain ⟨p, xs, G, ey, _, e, r⟩ := rb.iLst
    exact .inr (.inl (seqS ra.iStr ey r (.inl (.of e)) g))
  · obtain ⟨a, kvs, G, rfl, _, e, r⟩ := rb.iDik
    obtain rfl := ra.iStr
    obtain ⟨o, h1, h2⟩ := repk_dget (k := .inr i) e r
    refine .inl ⟨a, o, rfl, h1, ?_⟩
    rw [h2]
    exact q _ _ _ _ (.flat (.bl _)) g
  · obtain ⟨b, xs, rfl, e2, r2⟩ := ra.iTup
    obtain ⟨a, kvs, G, rfl, _, e, r⟩ := rb.iDit
    obtain ⟨ks, hk, g⟩ := oget_some g
    have hx := r2.keys hk
    subst hx
    refine .inl ⟨a, valV kvs ks, rfl, DGet.t (k := ks) e e2, ?_⟩
    have h2 : (valV kvs ks).isSome = (valD ds ks).isSome := by
      rcases r.val ks with ⟨h1, h2⟩ | ⟨d, v, B, h1, h2, _⟩ <;> simp [h1, h2]
    rw [h2]
    exact q _ _ _ _ (.flat (.bl _)) g
theorem od_in (hu : X.A.units + 1 < cLine) : OpD X (compareOp .In) (dIn false) := od_in' false hu
noncomputable abbrev WA := Env → (List D → Env → Prop) → Prop
structure PostA (K : PySem.W.Frag) (T : Tg) (z : Nat → V) (R : Addr → Prop) (m o : Bool) (H : Hp) (W : Addr → Prop) (σ : St) (ρ : Env) (H' : Hp) (W' : Addr → Prop) (ρ' : Env) (ds : List D) (vs : List V) (F : List Addr) : Prop where
  sr : SR K T z R H' W' σ ρ'
  fr : FrW H W H' W'
  calm : m = false → Same H H' ∧ W' = W ∧ ρ' = ρ
  rep : Reps K H' ds vs F
  own : o = true → F.Nodup ∧ ∀ a ∈ F, H a = none ∧ ¬ W' a
noncomputable def AV (X : Cx) (T : Tg) (m o : Bool) (es : List Expr) (w : WA) : Prop :=
  ∃ ta, PA X es ta ∧ ∀ (z : Nat → V) (R : Addr → Prop) (σ : St) (H : Hp) (W : Addr → Prop) (ρ : Env) (Q : List D → Env → Prop) (Q' : List V → Hp → Prop), SR X.K T z R H W σ ρ → w ρ Q →
    (∀ vs H' W' ds ρ' F, PostA X.K T z R m o H W σ ρ H' W' ρ' ds vs F → Q ds ρ' → Q' vs H') → ta σ H Q'
variable {es : List Expr} {wr : WA}
noncomputable def wNil : WA := fun ρ Q => Q [] ρ
noncomputable def wCons (w : WE) (wr : WA) : WA := fun ρ Q => w ρ fun d ρ1 => wr ρ1 fun ds ρ2 => Q (d :: ds) ρ2
theorem av_nil : AV X T false true [] wNil := ⟨_, pa_nil, fun z R σ H W ρ Q Q' s hw k => k [] H W [] ρ [] ⟨s, FrW.refl H W, fun _ => ⟨Same.refl H, rfl, rfl⟩, .nil, fun _ => ⟨List.nodup_nil, fun a m => nomatch m⟩⟩ hw⟩
theorem av_cons (he : EV X T m1 o1 e w) (hr : AV X T m2 o2 es wr) (hc : o1 = true ∨ m2 = false := by first | exact .inl rfl | exact .inr rfl) (hs : starEach (e :: es) X.env = (false, eval e X.env) :: starEach es X.env := by rfl) :
    AV X T (m1 || m2) (o1 && o2) (e :: es) (wCons w wr) := by
  obtain ⟨te, pe, ge⟩ := he
  obtain ⟨ta, pa, ga⟩ := hr
  refine ⟨_, pa_cons pe pa hs, fun z R σ H W ρ Q Q' s hw k => ?_⟩
  refine ge z R σ H W ρ _ _ s hw fun v1 H1 W1 d1 ρ1 F1 p q1 => ?_
  refine ga z R σ H1 W1 ρ1 _ _ p.sr q1 fun vs H2 W2 ds ρ2 F2 q q2 => ?_
  have r1 : Rep X.K H2 d1 v1 F1 := by
    rcases hc with hc | hc
    · exact p.rep.keep q.fr fun a h => ((p.own hc).2 a h).2
    · exact p.rep.same (q.calm hc).1
  refine k (v1 :: vs) H2 W2 (d1 :: ds) ρ2 (F1 ++ F2) ⟨q.sr, p.fr.trans q.fr, fun h => ?_, .cons r1 q.rep, fun h => ?_⟩ q2
  · rw [Bool.or_eq_false_iff] at h
    obtain ⟨a1, a2, a3⟩ := p.calm h.1
    obtain ⟨b1, b2, b3⟩ := q.calm h.2
    exact ⟨a1.trans b1, b2.trans a2, b3.trans a3⟩
  · rw [Bool.and_eq_true] at h
    obtain ⟨n1, k1⟩ := p.own h.1
    obtain ⟨n2, k2⟩ := q.own h.2
    refine ⟨List.nodup_append.mpr ⟨n1, n2, fun a ma b mb e => ?_⟩, fun a ma => ?_⟩
    · subst e
      obtain ⟨ob, e, _⟩ := p.rep.dom a ma
      rw [(k2 a mb).1] at e; cases e
    · rcases List.mem_append.mp ma with ma | ma
      · refine ⟨(k1 a ma).1, fun w => ?_⟩
        rcases q.fr.new a w with w | w
        · exact (k1 a ma).2 w
        · obtain ⟨ob, e, _⟩ := p.rep.dom a ma
          rw [w] at e; cases e
      · exact ⟨p.fr.dom a (k2 a ma).1, (k2 a ma).2⟩
noncomputable def wTup (wr : WA) : WE := fun ρ Q => wr ρ fun ds ρ' => ds.length ≤ sizeLine ∧ Q (.tup ds) ρ'
noncomputable def wLst (wr : WA) : WE := fun ρ Q => wr ρ fun ds ρ' => ds.length ≤ sizeLine ∧ Q (.lst ds) ρ'
theorem ev_tup {x1} (h : AV X T m o es wr) : EV X T m o (.Tuple es x1 pos) (wTup wr) := by
  obtain ⟨ta, pa, ga⟩ := h
  refine ⟨_, pe_tup pa, fun z R σ H W ρ Q Q' s hw k => ?_⟩
  refine ga z R σ H W ρ _ _ s hw fun vs H1 W1 ds ρ1 F p q => ?_
  obtain ⟨hz, q⟩ := q
  refine ⟨by rw [p.rep.length]; exact hz, fun a ha => k _ _ W1 (.tup ds) ρ1 F ⟨p.sr.same (same_upd ha), p.fr.trans (FrW.same W1 (same_upd ha)), fun h => ⟨(p.calm h).1.trans (same_upd ha), (p.calm h).2⟩, .tup upd_same (p.rep.same (same_upd ha)), p.own⟩ q⟩
theorem ev_lst (h : AV X T m o es wr) : EV X T m o (.List es pos) (wLst wr) := by
  obtain ⟨ta, pa, ga⟩ := h
  refine ⟨_, pe_lst pa, fun z R σ H W ρ Q Q' s hw k => ?_⟩
  refine ga z R σ H W ρ _ _ s hw fun vs H1 W1 ds ρ1 F p q => ?_
  obtain ⟨hz, q⟩ := q
  refine ⟨by rw [p.rep.length]; exact hz, fun a ha => k _ _ W1 (.lst ds) ρ1 (a :: F) ⟨p.sr.same (same_upd ha), p.fr.trans (FrW.same W1 (same_upd ha)), fun h => ⟨(p.calm h).1.trans (same_upd ha), (p.calm h).2⟩, .lst upd_same (p.rep.same (same_upd ha)), fun h => ?_⟩ q⟩
  obtain ⟨n1, k1⟩ := p.own h
  refine ⟨List.nodup_cons.mpr ⟨fun m => ?_, n1⟩, fun b mb => ?_⟩
  · obtain ⟨ob, e, _⟩ := p.rep.dom a m
    rw [ha] at e; cases e
  · rcases List.mem_cons.mp mb with rfl | mb
    · exact ⟨p.fr.dom _ ha, p.sr.nw ha⟩
    · exact k1 b mb
noncomputable abbrev GA := List D → (D → Prop) → Prop
noncomputable def CallD (X : Cx) (f : Value) (g : GA) : Prop :=
  ∃ r, CallR X f r ∧ ∀ (H : Hp) (ds : List D) (xs : List V) (F : List Addr) (k : D → Prop) (Q : VK), Reps X.K H ds xs F → g ds k → (∀ v H' d F', Fin X.K H H' d v F' → k d → Q v H') → r xs H Q
noncomputable def wCall (g : GA) (wr : WA) : WE := fun ρ Q => wr ρ fun ds ρ' => g ds fun d => Q d ρ'
variable {x : Str} {id T' : String} {p : Pos}
theorem call_fin {g : GA} {r : List V → Hp → VK → Prop} (gr : ∀ (H : Hp) (ds : List D) (xs : List V) (F : List Addr) (k : D → Prop) (Q : VK), Reps X.K H ds xs F → g ds k → (∀ v H' d F', Fin X.K H H' d v F' → k d → Q v H') → r xs H Q)
    {ta : TA} (ga : ∀ (z : Nat → V) (R : Addr → Prop) (σ : St) (H : Hp) (W : Addr → Prop) (ρ : Env) (Q : List D → Env → Prop) (Q' : List V → Hp → Prop), SR X.K T z R H W σ ρ → wr ρ Q →
      (∀ vs H' W' ds ρ' F, PostA X.K T z R m o H W σ ρ H' W' ρ' ds vs F → Q ds ρ' → Q' vs H') → ta σ H Q')
    {z : Nat → V} {R : Addr → Prop} {σ : St} {H : Hp} {W : Addr → Prop} {ρ : Env} {Q : D → Env → Prop} {Q' : VK} (s : SR X.K T z R H W σ ρ) (hw : wCall g wr ρ Q)
    (k : ∀ v H' W' d ρ' F, Post X.K T z R m true H W σ ρ H' W' ρ' d v F → Q d ρ' → Q' v H') : ta σ H fun vs H1 => r vs H1 Q' := by
  refine ga z R σ H W ρ _ _ s hw fun vs H1 W1 ds ρ1 F p q => ?_
  exact gr H1 ds vs F _ Q' p.rep q fun v H' d F' fi hk => k v H' W1 d ρ1 F' (Post.fin p.sr p.fr p.calm fi.same fi.rep fi.nd fi.new) hk
theorem ev_callB {g : GA} (hc : CallD X (.builtin id) g) (hm : X.mg x = none) (hv : bootBuiltins x = some (.builtin id)) (ha : AV X T m o (e :: es) wr) (hg : Gl X x := by rfl) (hn : x ≠ "__name__" := by decide) (hdb : (x == ("__debug__" : Str)) = false := by decide)
    (he : starEach (e :: es) X.env = (false, eval e X.env) :: starEach es X.env := by rfl) (hpl : (backTo pos (starEach es X.env)).any (·.1) = false := by rfl) : EV X T m true (.Call (.Name x p) (e :: es) [] pos) (wCall g wr) := by
  obtain ⟨r, rc, gr⟩ := hc
  obtain ⟨ta, pa, ga⟩ := ha
  exact ⟨_, pe_callB rc hg hm hv pa hn hdb he hpl, fun z R σ H W ρ Q Q' s hw k => call_fin gr ga s hw k⟩
theorem ev_callTy {g : GA} (hc : CallD X (.type T') g) (hm : X.mg x = none) (hv : bootBuiltins x = some (.type T')) (ha : AV X T m o (e :: es) wr) (hg : Gl X x := by rfl) (hn : x ≠ "__name__" := by decide) (hdb : (x == ("__debug__" : Str)) = false := by decide)
    (he : starEach (e :: es) X.env = (false, eval e X.env) :: starEach es X.env := by rfl) (hpl : (backTo pos (starEach es X.env)).any (·.1) = false := by rfl) : EV X T m true (.Call (.Name x p) (e :: es) [] pos) (wCall g wr) := by
  obtain ⟨r, rc, gr⟩ := hc
  obtain ⟨ta, pa, ga⟩ := ha
  exact ⟨_, pe_callTy rc hg hm hv pa hn hdb he hpl, fun z R σ H W ρ Q Q' s hw k => call_fin gr ga s hw k⟩
theorem ev_ty (t : Ty) (hm : X.mg x = none) (hv : bootBuiltins x = some (.type t.nm)) (hg : Gl X x := by rfl) (hn : x ≠ "__name__" := by decide) (hdb : (x == ("__debug__" : Str)) = false := by decide) : EV X T false true (.Name x pos) (wC (.ty t)) :=
  ev_const (pe_bltn hg hm hv (v := .ty t.nm) rfl hn hdb) fun _ => .ty t
theorem Reps.at1 {K : PySem.W.Frag} {H : Hp} {d : D} {xs : List V} {F : List Addr} (r : Reps K H [d] xs F) : ∃ v, xs = [v] ∧ Rep K H d v F := by
  cases r with
  | cons h r => cases r; rw [List.append_nil]; exact ⟨_, rfl, h⟩
theorem Reps.at2 {K : PySem.W.Frag} {H : Hp} {d e : D} {xs : List V} {F : List Addr} (r : Reps K H [d, e] xs F) : ∃ v u F1 F2, xs = [v, u] ∧ Rep K H d v F1 ∧ Rep K H e u F2 := by
  cases r with
  | cons h r =>
    obtain ⟨u, rfl, h2⟩ := r.at1
    exact ⟨_, _, _, _, rfl, h, h2⟩
noncomputable def dLen : GA
  | [.lst xs], k => k (.int xs.length)
  | [.tup xs], k => k (.int xs.length)
  | [.kls xs], k => k (.int xs.length)
  | [.dik xs], k => k (.int xs.length)
  | [.str z], k => z.length ≤ sizeLine ∧ k (.int z.length)
  | _, _ => False
theorem cd_len : CallD X (.builtin "len") dLen := by
  refine ⟨_, CallR.or call_len call_lenD, fun H ds xs F k Q r g q => ?_⟩
  cases ds with
  | nil => exact (show False from g).elim
  | cons d ds =>
    cases ds with
    | cons _ _ => cases d <;> exact (show False from g).elim
    | nil =>
      cases d with
      | lst es =>
        obtain ⟨v, rfl, rd⟩ := r.at1
        clear r
        cases rd with
        | lst e r9 => exact .inl ⟨_, _, rfl, .inl ⟨_, .of e, rfl⟩, by rw [r9.length]; exact q _ _ _ _ (.flat (.int _)) g⟩
      | tup es =>
        obtain ⟨v, rfl, rd⟩ := r.at1
        clear r
        cases rd with
        | tup e r9 => exact .inl ⟨_, _, rfl, .inr ⟨_, .of e, rfl⟩, by rw [r9.length]; exact q _ _ _ _ (.flat (.int _)) g⟩
      | kls es =>
        obtain ⟨v, rfl, rd⟩ := r.at1
        clear r
        cases rd with
        | kls e r9 => exact .inl ⟨_, _, rfl, .inl ⟨_, e.sq, rfl⟩, by rw [r9.length]; exact q _ _ _ _ (.flat (.int _)) g⟩
      | dik es =>
        obtain ⟨v, rfl, rd⟩ := r.at1
        clear r
        cases rd with
        | dik e r9 => exact .inr ⟨_, _, rfl, e, by rw [r9.length]; exact q _ _ _ _ (.flat (.int _)) g⟩
      | str es =>
        obtain ⟨v, rfl, rd⟩ := r.at1
        clear r
        cases rd
        exact .inl ⟨_, _, rfl, ⟨g.1, rfl⟩, q _ _ _ _ (.flat (.int _)) g.2⟩
      | _ => exact (show False from g).elim
noncomputable def dInt : GA
  | [.int i], k => k (.int i)
  | [.bl b], k => k (.int (if b then 1 else 0))
  | _, _ => False
theorem cd_int : CallD X (.type "int") dInt := by
  refine ⟨_, call_int1, fun H ds xs F k Q r g q => ?_⟩
  cases ds with
  | nil => exact (show False from g).elim
  | cons d ds =>
    cases ds with
    | cons _ _ => cases d <;> exact (show False from g).elim
    | nil =>
      cases d with
      | int i =>
        obtain ⟨v, rfl, rd⟩ := r.at1
        cases rd
        exact .inl ⟨_, rfl, q _ _ _ _ (.flat (.int _)) g⟩
      | bl i =>
        obtain ⟨v, rfl, rd⟩ := r.at1
        cases rd
        exact .inr ⟨_, rfl, q _ _ _ _ (.flat (.int _)) g⟩
      | _ => exact (show False from g).elim
noncomputable def dAbs : GA
  | [.int i], k => k (.int (if i < 0 then -i else i))
  | _, _ => False
theorem cd_abs : CallD X (.builtin "abs") dAbs := by
  refine ⟨_, call_abs, fun H ds xs F k Q r g q => ?_⟩
  cases ds with
  | nil => exact (show False from g).elim
  | cons d ds =>
    cases ds with
    | cons _ _ => cases d <;> exact (show False from g).elim
    | nil =>
      cases d with
      | int i =>
        obtain ⟨v, rfl, rd⟩ := r.at1
        cases rd
        exact ⟨_, rfl, q _ _ _ _ (.flat (.int _)) g⟩
      | _ => exact (show False from g).elim
noncomputable def dMin2 : GA
  | [.int i, .int j], k => k (.int (if j < i then j else i))
  | _, _ => False
noncomputable def dMax2 : GA
  | [.int i, .int j], k => k (.int (if j > i then j else i))
  | _, _ => False
theorem cd_max2 (hc : X.calm = true) : CallD X (.builtin "max") dMax2 := by
  refine ⟨_, call_max2 hc, fun H ds xs F k Q r g q => ?_⟩
  cases ds with
  | nil => exact (show False from g).elim
  | cons d ds =>
    cases ds with
    | nil => cases d <;> exact (show False from g).elim
    | cons d2 ds =>
      cases d with
      | int i =>
        cases d2 with
        | int j =>
          cases ds with
          | nil =>
            obtain ⟨v, u, F1, F2, rfl, r1, r2⟩ := r.at2
            cases r1; cases r2
            exact ⟨_, _, rfl, q _ _ _ _ (.flat (.int _)) g⟩
          | cons _ _ => exact (show False from g).elim
        | _ => exact (show False from g).elim
      | _ => exact (show False from g).elim
noncomputable def dList : GA
  | [.lst xs], k => pureL xs = true ∧ k (.lst xs)
  | [.tup xs], k => pureL xs = true ∧ k (.lst xs)
  | [.kls xs], k => pureL xs = true ∧ k (.lst xs)
  | _, _ => False
theorem cd_list : CallD X (.type "list") dList := by
  refine ⟨_, call_list_of, fun H ds xs F k Q r g q => ?_⟩
  cases ds with
  | nil => exact (show False from g).elim
  | cons d ds =>
    cases ds with
    | cons _ _ => cases d <;> exact (show False from g).elim
    | nil =>
      cases d with
      | lst es =>
        obtain ⟨v, rfl, rd⟩ := r.at1
        clear r
        cases rd with
        | lst e r9 => exact ⟨_, _, rfl, .inl (.of e), fun l hl => q _ _ _ [l] ⟨same_upd hl, .lst upd_same ((r9.pure g.1).2.same (same_upd hl)), by simp, fun b m => by rw [List.mem_singleton.mp m]; exact hl⟩ g.2⟩
      | tup es =>
        obtain ⟨v, rfl, rd⟩ := r.at1
        clear r
        cases rd with
        | tup e r9 => exact ⟨_, _, rfl, .inr (.of e), fun l hl => q _ _ _ [l] ⟨same_upd hl, .lst upd_same ((r9.pure g.1).2.same (same_upd hl)), by simp, fun b m => by rw [List.mem_singleton.mp m]; exact hl⟩ g.2⟩
      | kls es =>
        obtain ⟨v, rfl, rd⟩ := r.at1
        clear r
        cases rd with
        | kls e r9 => exact ⟨_, _, rfl, .inl e.sq, fun l hl => q _ _ _ [l] ⟨same_upd hl, .lst upd_same ((r9.pure g.1).2.same (same_upd hl)), by simp, fun b m => by rw [List.mem_singleton.mp m]; exact hl⟩ g.2⟩
      | _ => exact (show False from g).elim
end
end PV
set_option Elab.async false
set_option linter.all false
set_option maxRecDepth 100000
set_option maxHeartbeats 4000000
namespace PV
open PySem PySem.Spec L2
section
variable {X : Cx} {T : Tg} {m o m1 m2 m3 o1 o2 : Bool} {e a b : Expr} {w wa wb : WE} {pos p2 p : Pos} {es : List Expr} {wr : WA} {x : Str}
noncomputable def isiD : D → Ty → Option Bool
  | .non, _ => some false
  | .bl _, t => some (t == .bool || t == .int)
  | .int _, t => some (t == .int)
  | .str _, t => some (t == .str)
  | .tup _, t => some (t == .tuple)
  | .lst _, t => some (t == .list)
  | .dik _, t => some (t == .dict)
  | .dit _, t => some (t == .dict)
  | .kls _, _ => none
  | .ty _, _ => none
  | .fdk _, _ => none
  | .ftp _, _ => none
  | .fls _, t => some (t == .list)
  | .fdt _, _ => none
  | .obj _ _, _ => none
  | .clo _ _, _ => none
noncomputable def dIsi : GA
  | [d, .ty t], k => oget (isiD d t) fun b => k (.bl b)
  | _, _ => False
theorem kit_nn {K : PySem.W.Frag} (t : Ty) : PySem.W.kitOne K (.type "NoneType") (.type t.nm) = some false := by
  cases t <;> (unfold PySem.W.kitOne; rw [if_neg (by decide)]; rfl)
theorem kit_bb {K : PySem.W.Frag} (t : Ty) : PySem.W.kitOne K (.type "bool") (.type t.nm) = some (t == .bool || t == .int) := by
  cases t <;> first | (unfold PySem.W.kitOne; rw [if_pos (by decide)]; rfl) | (unfold PySem.W.kitOne; rw [if_neg (by decide)]; rfl)
theorem kit_ii {K : PySem.W.Frag} (t : Ty) : PySem.W.kitOne K (.type "int") (.type t.nm) = some (t == .int) := by
  cases t <;> first | (unfold PySem.W.kitOne; rw [if_pos (by decide)]; rfl) | (unfold PySem.W.kitOne; rw [if_neg (by decide)]; rfl)
theorem kit_ss {K : PySem.W.Frag} (t : Ty) : PySem.W.kitOne K (.type "str") (.type t.nm) = some (t == .str) := by
  cases t <;> first | (unfold PySem.W.kitOne; rw [if_pos (by decide)]; rfl) | (unfold PySem.W.kitOne; rw [if_neg (by decide)]; rfl)
theorem kit_tt {K : PySem.W.Frag} (t : Ty) : PySem.W.kitOne K (.type "tuple") (.type t.nm) = some (t == .tuple) := by
  cases t <;> first | (unfold PySem.W.kitOne; rw [if_pos (by decide)]; rfl) | (unfold PySem.W.kitOne; rw [if_neg (by decide)]; rfl)
theorem kit_ll {K : PySem.W.Frag} (t : Ty) : PySem.W.kitOne K (.type "list") (.type t.nm) = some (t == .list) := by
  cases t <;> first | (unfold PySem.W.kitOne; rw [if_pos (by decide)]; rfl) | (unfold PySem.W.kitOne; rw [if_neg (by decide)]; rfl)
theorem kit_dd {K : PySem.W.Frag} (t : Ty) : PySem.W.kitOne K (.type "dict") (.type t.nm) = some (t == .dict) := by
  cases t <;> first | (unfold PySem.W.kitOne; rw [if_pos (by decide)]; rfl) | (unfold PySem.W.kitOne; rw [if_neg (by decide)]; rfl)
theorem cd_isi : CallD X (.builtin "isinstance") dIsi := by
  refine ⟨_, call_isinst, fun H ds xs F k Q r g q => ?_⟩
  match ds, r, g with
  | [d, .ty t], r, g =>
    obtain ⟨v, u, F1, F2, rfl, r1, r2⟩ := r.at2
    obtain ⟨b, hb, g⟩ := oget_some g
    cases r2
    have fin := q _ _ _ _ (.flat (.bl b)) g
    cases r1 with
    | non => exact ⟨_, _, _, _, rfl, .non, kit_nn t, by cases hb; exact fin⟩
    | bl c => exact ⟨_, _, _, _, rfl, .bl c, kit_bb t, by cases hb; exact fin⟩
    | int c => exact ⟨_, _, _, _, rfl, .int c, kit_ii t, by cases hb; exact fin⟩
    | str c => exact ⟨_, _, _, _, rfl, .str c, kit_ss t, by cases hb; exact fin⟩
    | tup e _ => exact ⟨_, _, _, _, rfl, .tup e, kit_tt t, by cases hb; exact fin⟩
    | lst e _ => exact ⟨_, _, _, _, rfl, .lst e, kit_ll t, by cases hb; exact fin⟩
    | dik e _ => exact ⟨_, _, _, _, rfl, .dK e, kit_dd t, by cases hb; exact fin⟩
    | dit e _ => exact ⟨_, _, _, _, rfl, .dT e, kit_dd t, by cases hb; exact fin⟩
    | kls _ _ => cases hb
    | ty _ => cases hb
    | fdk _ _ => cases hb
    | ftp _ _ _ => cases hb
    | fls e _ => exact ⟨_, _, _, _, rfl, .frz e, kit_ll t, by cases hb; exact fin⟩
    | fdt _ _ => cases hb
    | obj _ _ _ => cases hb
    | clo _ _ => cases hb
theorem SR0.write {K : PySem.W.Frag} {z : Nat → V} {R : Addr → Prop} {H H' : Hp} {W : Addr → Prop} {σ : St} {ρ : Env} {fp : Nat → List Addr} {i : Nat} {d d' : D} {v : V} {l : Addr} {F' : List Addr} (s : SR0 K T z R H W σ ρ fp)
    (hl : look ρ i = some d) (ht : T.own i = true) (hv : σ[i]? = some (some v)) (hm : l ∈ fp i) (hk : ∀ b u, H b = some u → b ≠ l → H' b = some u) (hnew : ∃ ob, H' l = some ob ∧ imm ob = false) (r : Rep K H' d' v F') (nd : F'.Nodup)
    (sub : ∀ a ∈ F', a ∈ fp i ∨ (¬ W a ∧ ¬ R a)) : SR K T z R H' (fun a => W a ∨ a ∈ F') σ (ρ.set i (some d')) := by
  have hW : W l := (s.own i d hl ht).2 l hm
  have hi : ImmK H H' := fun b ob' e im => by
    obtain ⟨ol, e1, e2⟩ := s.wd l hW
    have : b ≠ l := fun z => by rw [z, e1] at e; cases e; rw [e2] at im; cases im
    exact hk b _ e this
  refine ⟨fun j => if j = i then F' else fp j, ?_, ?_, ?_, ?_, ?_, ?_, ?_, ?_, s.fix⟩
  · rw [List.length_set]; exact s.len
  · intro a ha
    by_cases e : a = l
    · subst e; exact hnew
    · rcases ha with ha | ha
      · exact (s.wd a ha).imp fun ob q => ⟨hk a ob q.1 e, q.2⟩
      · exact r.dom a ha
  · intro j e hj
    by_cases hji : j = i
    · subst hji
      rw [look_set_same (look_lt hl)] at hj
      cases hj
      exact ⟨v, hv, by rw [if_pos rfl]; exact r⟩
    · rw [look_set_ne hji] at hj
      obtain ⟨u, h1, h2⟩ := s.at_ j e hj
      refine ⟨u, h1, ?_⟩
      rw [if_neg hji]
      refine h2.frame hi fun a ha => ?_
      obtain ⟨oa, e1, _⟩ := h2.dom a ha
      rw [e1]
      refine hk a _ e1 fun z => ?_
      subst z
      cases hto : T.own j with
      | true => exact s.dis i j d e hl hj ht hto (fun z => hji z.symm) _ hm ha
      | false => exact s.wr _ hW (s.ro j e hj hto _ ha)
  · intro j e hj hto
    by_cases hji : j = i
    · subst hji; simp only [if_pos]; exact ⟨nd, fun a h => .inr h⟩
    · rw [look_set_ne hji] at hj
      simp only [if_neg hji]
      exact ⟨(s.own j e hj hto).1, fun a h => .inl ((s.own j e hj hto).2 a h)⟩
  · intro j e hj hto
    have hji : j ≠ i := fun z => by subst z; rw [ht] at hto; cases hto
    rw [look_set_ne hji] at hj
    simp only [if_neg hji]
    exact s.ro j e hj hto
  · intro a ha hr
    rcases ha with ha | ha
    · exact s.wr a ha hr
    · rcases sub a ha with h | h
      · exact s.wr a ((s.own i d hl ht).2 a h) hr
      · exact h.2 hr
  · intro a hr
    have : a ≠ l := fun z => by subst z; exact s.wr _ hW hr
    exact (s.rd a hr).imp fun ob q => ⟨hk a ob q.1 this, q.2⟩
  · intro j k e e' hj hk tj tk hne a ha ha'
    by_cases hji : j = i
    · subst hji
      have hkj : k ≠ j := fun z => hne z.symm
      rw [look_set_ne hkj] at hk
      simp only [if_pos, if_neg hkj] at ha ha'
      rcases sub a ha with h | h
      · exact s.dis j k d e' hl hk ht tk hne a h ha'
      · exact h.1 ((s.own k e' hk tk).2 a ha')
    · rw [look_set_ne hji] at hj
      simp only [if_neg hji] at ha
      by_cases hki : k = i
      · subst hki
        simp only [if_pos] at ha'
        rcases sub a ha' with h | h
        · exact s.dis j k e d hj hl tj ht hne a ha h
        · exact h.1 ((s.own j e hj tj).2 a ha)
      · rw [look_set_ne hki] at hk
        simp only [if_neg hki] at ha'
        exact s.dis j k e e' hj hk tj tk hne a ha ha'
theorem FrW.write {H0 H H' : Hp} {W0 W : Addr → Prop} {l : Addr} {F' : List Addr} (f : FrW H0 W0 H W) (hl : W l) (hm : ∃ ol, H l = some ol ∧ PV.imm ol = false) (hk : ∀ b u, H b = some u → b ≠ l → H' b = some u) (hnew : ∃ ob, H' l = some ob ∧ PV.imm ob = false)
    (sub : ∀ a ∈ F', W a ∨ H0 a = none) : FrW H0 W0 H' (fun a => W a ∨ a ∈ F') where
  keep := fun b ob' e n => by
    have : b ≠ l := fun z => by
      subst z
      rcases f.new _ hl with h | h
      · exact n h
      · rw [h] at e; cases e
    exact hk b _ (f.keep b ob' e n) this
  dom := fun b e => by
    by_cases h : b = l
    · subst h
      obtain ⟨ob, e1, _⟩ := hnew
      rw [e1] at e; cases e
    · refine f.dom b ?_
      cases q : H b with
      | none => rfl
      | some u => rw [hk b u q h] at e; cases e
  imm := fun b ob' e im => by
    have e' := f.imm b ob' e im
    obtain ⟨ol, e1, e2⟩ := hm
    have : b ≠ l := fun z => by rw [z, e1] at e'; cases e'; rw [e2] at im; cases im
    exact hk b _ e' this
  new := fun b h => by
    rcases h with h | h
    · exact f.new b h
    · rcases sub b h with h | h
      · exact f.new b h
      · exact .inr h
theorem upd_keep {H : Hp} {l : Addr} {ob : HO} : ∀ b u, H b = some u → b ≠ l → upd H l ob b = some u := fun b u e n => by rw [upd_ne n]; exact e
noncomputable abbrev GM := D → List D → (D → D → Prop) → Prop
noncomputable def MtD (X : Cx) (id : String) (g : GM) : Prop :=
  ∃ r, MtR X id r ∧ ∀ (H : Hp) (d : D) (ds : List D) (v : V) (xs : List V) (F G : List Addr) (k : D → D → Prop) (Q : VK), Rep X.K H d v F → F.Nodup → Reps X.K H ds xs G → G.Nodup → (∀ a ∈ G, a ∉ F) → g d ds k →
    (∀ u l ob e d' F', l ∈ F → imm ob = false → Rep X.K (upd H l ob) d' v F' → F'.Nodup → (∀ a ∈ F', a ∈ F ∨ a ∈ G) → Rep X.K (upd H l ob) e u [] → k e d' → Q u (upd H l ob)) → r v xs H Q
noncomputable def tyD : Option D → String → Bool
  | some (.lst _), t => t == "list"
  | some (.dik _), t => t == "dict"
  | some (.dit _), t => t == "dict"
  | _, _ => false
theorem tyV_of {K : PySem.W.Frag} {H : Hp} {d : D} {v : V} {F : List Addr} {t : String} (r : Rep K H d v F) (h : tyD (some d) t = true) : tyV K t v H := by
  cases r <;> try (simp [tyD] at h)
  · subst h; exact .inl ⟨rfl, _, .of ‹_›⟩
  · subst h; exact .inr (.inr (.inl ⟨rfl, .inl ⟨_, ‹_›⟩⟩))
  · subst h; exact .inr (.inr (.inl ⟨rfl, .inr ⟨_, ‹_›⟩⟩))
noncomputable def wMt (i : Nat) (t : String) (g : GM) (wr : WA) : WE := fun ρ Q => tyD (look ρ i) t = true ∧ wr ρ fun ds ρ1 => oget (look ρ1 i) fun d => g d ds fun e d' => Q e (ρ1.set i (some d'))
theorem mt_fin {i : Nat} {t : String} {g : GM} {r : V → List V → Hp → VK → Prop} (ht : T.own i = true)
    (gr : ∀ (H : Hp) (d : D) (ds : List D) (v : V) (xs : List V) (F G : List Addr) (k : D → D → Prop) (Q : VK), Rep X.K H d v F → F.Nodup → Reps X.K H ds xs G → G.Nodup → (∀ a ∈ G, a ∉ F) → g d ds k →
      (∀ u l ob e d' F', l ∈ F → imm ob = false → Rep X.K (upd H l ob) d' v F' → F'.Nodup → (∀ a ∈ F', a ∈ F ∨ a ∈ G) → Rep X.K (upd H l ob) e u [] → k e d' → Q u (upd H l ob)) → r v xs H Q)
    {ta : TA} (ga : ∀ (z : Nat → V) (R : Addr → Prop) (σ : St) (H : Hp) (W : Addr → Prop) (ρ : Env) (Q : List D → Env → Prop) (Q' : List V → Hp → Prop), SR X.K T z R H W σ ρ → wr ρ Q →
      (∀ vs H' W' ds ρ' F, PostA X.K T z R m true H W σ ρ H' W' ρ' ds vs F → Q ds ρ' → Q' vs H') → ta σ H Q')
    {z : Nat → V} {R : Addr → Prop} {σ : St} {H : Hp} {W : Addr → Prop} {ρ : Env} {Q : D → Env → Prop} {Q' : VK} (s : SR X.K T z R H W σ ρ) (hw : wMt i t g wr ρ Q)
    (k : ∀ v H' W' d ρ' F, Post X.K T z R true true H W σ ρ H' W' ρ' d v F → Q d ρ' → Q' v H') : tVar i σ H fun x H1 => tyV X.K t x H1 ∧ ta σ H1 fun xs H2 => r x xs H2 Q' := by
  obtain ⟨hty, hw⟩ := hw
  obtain ⟨fp0, s0⟩ := id s
  cases hl : look ρ i with
  | none => rw [hl] at hty; cases hty
  | some d0 =>
    obtain ⟨v, hv, r0⟩ := s0.at_ i d0 hl
    refine ⟨v, hv, tyV_of r0 (by rw [hl] at hty; exact hty), ?_⟩
    refine ga z R σ H W ρ _ _ s hw fun vs H1 W1 ds ρ1 G p q => ?_
    obtain ⟨d, hd, q⟩ := oget_some q
    obtain ⟨fp, s1⟩ := id p.sr
    obtain ⟨v', hv', r1⟩ := s1.at_ i d hd
    have : v' = v := by rw [hv] at hv'; cases hv'; rfl
    subst this
    obtain ⟨nd1, sw⟩ := s1.own i d hd ht
    obtain ⟨ndG, kG⟩ := p.own rfl
    refine gr H1 d ds v' vs (fp i) G _ Q' r1 nd1 p.rep ndG (fun a ha hf => (kG a ha).2 (sw a hf)) q fun u l ob e d' F' hlF him rd' ndF sub re hk => ?_
    have hWl := sw l hlF
    refine k u _ (fun a => W1 a ∨ a ∈ F') e _ [] ⟨s1.write hd ht hv' hlF upd_keep ⟨ob, upd_same, him⟩ rd' ndF (fun a ha => ?_), p.fr.write hWl (s1.wd l hWl) upd_keep ⟨ob, upd_same, him⟩ (fun a ha => ?_), (fun h => nomatch h), re, fun _ => ⟨List.nodup_nil, fun a m => nomatch m⟩⟩ hk
    · rcases sub a ha with h | h
      · exact .inl h
      · exact .inr ⟨(kG a h).2, s.nr (kG a h).1⟩
    · rcases sub a ha with h | h
      · exact .inl (sw a h)
      · exact .inr (kG a h).1
variable {name : Str} {apos cpos : Pos} {T' id : String}
theorem ev_mt {i : Nat} {g : GM} (hm : MtD X id g) (pa : PlainAttrs T') (slot : Slot T' name id) (hty : typeOf (.builtin id) = pure (.type "method_descriptor")) (ha : AV X T m true (e :: es) wr)
    (ht : T.own i = true := by rfl) (hN : X.N[i]? = some x := by rfl) (hv : Vis X.env.scope x := by first | exact Or.inl rfl | exact Or.inr (Or.inl rfl) | exact Or.inr (Or.inr rfl)) (hd : (x == ("__debug__" : Str)) = false := by decide)
    (hcd : (x == ("__classdict__" : Str)) = false := by decide)
    (hbase : attributeBase (.Name x p) name X.env (eval (.Name x p) X.env) = eval (.Name x p) X.env := by rfl)
    (hfew : ((backTo cpos (starEach (e :: es) X.env)).all (fun x => !x.1) && (backToKw cpos (keywordEach [] X.env)).all (fun x => x.1.isSome)
      && decide ((e :: es).length + ([] : List Keyword).length + (if ([] : List Keyword).isEmpty then 0 else 1) < 30)) = true := by rfl)
    (hline : (apos.endLine == cpos.line) = true := by rfl) (hs : starEach (e :: es) X.env = (false, eval e X.env) :: starEach es X.env := by rfl) (hplain : (backTo cpos (starEach es X.env)).any (·.1) = false := by rfl) :
    EV X T true true (.Call (.Attribute (.Name x p) name apos) (e :: es) [] cpos) (wMt i T' g wr) := by
  obtain ⟨r, mr, gr⟩ := hm
  obtain ⟨ta, pa', ga⟩ := ha
  exact ⟨_, pe_bm pa slot hty mr (pe_var hN hv hd hcd) pa' hbase hfew hline hs hplain, fun z R σ H W ρ Q Q' s hw k => mt_fin ht gr ga s hw k⟩
noncomputable def gAppend : GM
  | .lst xs, [d], k => xs.length < sizeLine ∧ k .non (.lst (xs ++ [d]))
  | _, _, _ => False
theorem nodup_ins {α : Type} {F G : List α} (h : F.Nodup) (h' : G.Nodup) (d : ∀ a ∈ G, a ∉ F) : (F ++ G).Nodup :=
  List.nodup_append.mpr ⟨h, h', fun a ha b hb e => d b hb (e ▸ ha)⟩
theorem imm_upd {H : Hp} {l : Addr} {ob ob' : HO} (h : H l = some ob) (hi : imm ob = false) : ImmK H (upd H l ob') := fun b u e im => by
  have : b ≠ l := fun z => by rw [z, h] at e; cases e; rw [hi] at im; cases im
  rw [upd_ne this]; exact e
theorem Reps.upd {K : PySem.W.Frag} {H : Hp} {ds : List D} {xs : List V} {F : List Addr} {l : Addr} {ob ob' : HO} (r : Reps K H ds xs F) (h : H l = some ob) (hi : imm ob = false) (hn : l ∉ F) : Reps K (L2.upd H l ob') ds xs F :=
  r.frame (imm_upd h hi) fun a ha => upd_ne fun z => hn (z ▸ ha)
theorem Rep.upd {K : PySem.W.Frag} {H : Hp} {d : D} {x : V} {F : List Addr} {l : Addr} {ob ob' : HO} (r : Rep K H d x F) (h : H l = some ob) (hi : imm ob = false) (hn : l ∉ F) : Rep K (L2.upd H l ob') d x F :=
  r.frame (imm_upd h hi) fun a ha => upd_ne fun z => hn (z ▸ ha)
theorem RepK.upd {K : PySem.W.Frag} {H : Hp} {ds : List (Key × D)} {xs : List (Key × V)} {F : List Addr} {l : Addr} {ob ob' : HO} (r : RepK K H ds xs F) (h : H l = some ob) (hi : imm ob = false) (hn : l ∉ F) : RepK K (L2.upd H l ob') ds xs F :=
  r.frame (imm_upd h hi) fun a ha => upd_ne fun z => hn (z ▸ ha)
theorem RepT.upd {K : PySem.W.Frag} {H : Hp} {ds : List (List Key × D)} {xs : List (List Key × V)} {F : List Addr} {l : Addr} {ob ob' : HO} (r : RepT K H ds xs F) (h : H l = some ob) (hi : imm ob = false) (hn : l ∉ F) : RepT K (L2.upd H l ob') ds xs F :=
  r.frame (imm_upd h hi) fun a ha => upd_ne fun z => hn (z ▸ ha)
theorem md_append : MtD X "list.append" gAppend := by
  refine ⟨_, mt_append, fun H d ds v xs F G k Q r nd rs ndG dis g q => ?_⟩
  cases d with
  | lst es =>
    cases ds with
    | nil => exact (show False from g).elim
    | cons d ds =>
      cases ds with
      | cons _ _ => exact (show False from g).elim
      | nil =>
        obtain ⟨u, rfl, rd⟩ := rs.at1
        cases r with
        | @lst l ys _ F e r9 =>
          obtain ⟨hz, g⟩ := g
          obtain ⟨nl, nd⟩ := List.nodup_cons.mp nd
          have hG : l ∉ G := fun h => dis l h List.mem_cons_self
          refine ⟨l, ys, u, rfl, rfl, e, by rw [r9.length]; exact hz, ?_⟩
          refine q .non l _ .non _ (l :: (F ++ G)) List.mem_cons_self rfl (.lst upd_same ((r9.upd e rfl nl).snoc (rd.upd e rfl hG))) (List.nodup_cons.mpr ⟨fun h => (List.mem_append.mp h).elim nl hG, nodup_ins nd ndG fun a ha hf => dis a ha (List.mem_cons_of_mem _ hf)⟩) (fun a ha => ?_) .non g
          rcases List.mem_cons.mp ha with rfl | ha
          · exact .inl List.mem_cons_self
          · rcases List.mem_append.mp ha with ha | ha
            · exact .inl (List.mem_cons_of_mem _ ha)
            · exact .inr ha
  | _ => exact (show False from g).elim
noncomputable def gPopAt : GM
  | .lst xs, [.int i], k => -(2 ^ 63) ≤ i ∧ i < 2 ^ 63 ∧ oget (seqIndex? i xs.length) fun j => oget xs[j]? fun d => d.pure = true ∧ k d (.lst (xs.eraseIdx j))
  | _, _, _ => False
theorem sub3 {α : Type} {F A B C : List α} (h : F = A ++ B ++ C) : (A ++ C).Sublist F := by
  rw [h, List.append_assoc]
  exact List.Sublist.append (List.Sublist.refl _) (List.sublist_append_right _ _)
theorem md_popAt : MtD X "list.pop" gPopAt := by
  refine ⟨_, mt_popAt, fun H d ds v xs F G k Q r nd rs ndG dis g q => ?_⟩
  cases d with
  | lst es =>
    cases ds with
    | nil => exact (show False from g).elim
    | cons d ds =>
      cases ds with
      | cons _ _ => cases d <;> exact (show False from g).elim
      | nil =>
        cases d with
        | int i =>
          obtain ⟨u, rfl, rd⟩ := rs.at1
          cases rd
          cases r with
          | @lst l ys _ F e r9 =>
            obtain ⟨h1, h2, g⟩ := g
            obtain ⟨j, hj, g⟩ := oget_some g
            obtain ⟨d, hd, hp, g⟩ := oget_some g
            obtain ⟨nl, nd⟩ := List.nodup_cons.mp nd
            obtain ⟨y, A, B, C, hy, hF, rB, rA, rC⟩ := r9.split hd
            obtain ⟨hB, rB⟩ := rB.pure hp
            have sub := sub3 hF
            have nAC : l ∉ A ++ C := fun h => nl (sub.subset h)
            refine ⟨l, ys, i, j, y, rfl, rfl, e, h1, h2, by rw [r9.length]; exact hj, hy, ?_⟩
            refine q y l _ d _ (l :: (A ++ C)) List.mem_cons_self rfl (.lst upd_same ?_) (List.nodup_cons.mpr ⟨nAC, nd.sublist sub⟩) (fun a ha => ?_) (rB.upd e rfl (fun h => nomatch h)) g
            · rw [erase_td, erase_td]
              exact (rA.append rC).upd e rfl nAC
            · rcases List.mem_cons.mp ha with rfl | ha
              · exact .inl List.mem_cons_self
              · exact .inl (List.mem_cons_of_mem _ (sub.subset ha))
        | _ => exact (show False from g).elim
  | _ => exact (show False from g).elim
end
end PV
set_option Elab.async false
set_option linter.all false
set_option maxRecDepth 100000
set_option maxHeartbeats 4000000
namespace PV
open PySem PySem.Spec L2
noncomputable def spR (K : PySem.W.Frag) (g : GA) : Sp := fun vs H Q _ => ∃ (ds : List D) (F : List Addr) (k : D → Prop), Reps K H ds vs F ∧ g ds k ∧ ∀ v H' d F', Fin K H H' d v F' → k d → Q v H'
theorem RepK.pure {K : PySem.W.Frag} {H : Hp} : ∀ {ds : List (Key × D)} {xs : List (Key × V)} {F : List Addr}, RepK K H ds xs F → (ds.all fun kv => kv.2.pure) = true → F = []
  | [], _, _, r, _ => by cases r; rfl
  | d :: ds, _, _, r, h => by
    rw [List.all_cons, Bool.and_eq_true] at h
    cases r with
    | cons p r => rw [(p.pure h.1).1, RepK.pure r h.2]; rfl
theorem RepT.pure {K : PySem.W.Frag} {H : Hp} : ∀ {ds : List (List Key × D)} {xs : List (List Key × V)} {F : List Addr}, RepT K H ds xs F → (ds.all fun kv => kv.2.pure) = true → F = []
  | [], _, _, r, _ => by cases r; rfl
  | d :: ds, _, _, r, h => by
    rw [List.all_cons, Bool.and_eq_true] at h
    cases r with
    | cons p r => rw [(p.pure h.1).1, RepT.pure r h.2]; rfl
section
variable {X : Cx} {T : Tg} {m o m0 m1 m2 m3 o1 o2 : Bool} {e a b : Expr} {w wa wb : WE} {pos p2 p : Pos} {es : List Expr} {wr : WA} {x : Str} {k : Nat} {f : Addr} {fd : FuncData} {ps : List Str}
theorem ev_call {g : GA} (F : FnOk X.prog X.w X.K X.mg X.base CX0 k f fd ps (spR X.K g)) (hr : Room k X.A) (hm : X.mg x = some (.ref f)) (hk : PySem.W.keepIn X.K (.ref f) = true) (hb : Binds X.K fd ps []) (ha : AV X T m o (e :: es) wr) (hg : Gl X x := by rfl)
    (hdb : (x == ("__debug__" : Str)) = false := by decide) (he : starEach (e :: es) X.env = (false, eval e X.env) :: starEach es X.env := by rfl) (hpl : (backTo pos (starEach es X.env)).any (·.1) = false := by rfl) :
    EV X T m true (.Call (.Name x p) (e :: es) [] pos) (wCall g wr) := by
  obtain ⟨ta, pa, ga⟩ := ha
  refine ⟨_, pe_call F hr hg hm hk hb .nil pass0 pa hdb he hpl, fun z R σ H W ρ Q Q' s hw k => ?_⟩
  refine ga z R σ H W ρ _ _ s hw fun vs H1 W1 ds ρ1 F p q => ?_
  refine ⟨ds, F, _, by rw [List.append_nil]; exact p.rep, q, fun v H' d F' fi hk => k v H' W1 d ρ1 F' (Post.fin p.sr p.fr p.calm fi.same fi.rep fi.nd fi.new) hk⟩
noncomputable abbrev WI := Env → (List D → List D → Env → Prop) → Prop
noncomputable def AI (X : Cx) (T : Tg) (m : Bool) (i p : Nat) (es : List Expr) (w : WI) : Prop :=
  ∃ ta, PA X es ta ∧ ∀ (z : Nat → V) (R : Addr → Prop) (σ : St) (H : Hp) (W : Addr → Prop) (ρ : Env) (Q : List D → List D → Env → Prop) (Q' : List V → Hp → Prop), SR X.K T z R H W σ ρ → w ρ Q →
    (∀ v xs ys H' W' pre post ρ', PostT X.K T z R m H W σ ρ H' W' ρ' → σ[i]? = some (some v) → Reps X.K H' pre xs [] → Reps X.K H' post ys [] → pre.length = p → Q pre post ρ' → Q' (xs ++ v :: ys) H') → ta σ H Q'
noncomputable def wSkip (w : WE) (wi : WI) : WI := fun ρ Q => w ρ fun d ρ1 => d.pure = true ∧ wi ρ1 fun pre post ρ2 => Q (d :: pre) post ρ2
theorem ai_skip {i q : Nat} {wi : WI} (he : EV X T m1 o e w) (hr : AI X T m2 i q es wi) (hs : starEach (e :: es) X.env = (false, eval e X.env) :: starEach es X.env := by rfl) : AI X T (m1 || m2) i (q + 1) (e :: es) (wSkip w wi) := by
  obtain ⟨te, pe, ge⟩ := he
  obtain ⟨ta, pa, ga⟩ := hr
  refine ⟨_, pa_cons pe pa hs, fun z R σ H W ρ Q Q' s hw k => ?_⟩
  refine ge z R σ H W ρ _ _ s hw fun v1 H1 W1 d1 ρ1 F1 p ⟨hp, q1⟩ => ?_
  obtain ⟨_, r1⟩ := p.rep.pure hp
  refine ga z R σ H1 W1 ρ1 _ _ p.sr q1 fun v xs ys H2 W2 pre post ρ2 q hv rp rq hl q2 => ?_
  exact k v (v1 :: xs) ys H2 W2 (d1 :: pre) post ρ2 (PostT.seq ⟨p.sr, p.fr, p.calm⟩ q) hv (.cons (F := []) (G := []) (r1.keep q.fr fun a m => nomatch m) rp) rq (by rw [List.length_cons, hl]) q2
noncomputable abbrev WL := Env → (List D → Env → Prop) → Prop
noncomputable def JD (K : PySem.W.Frag) (J : It) (H : Hp) (W : Addr → Prop) (ds : List D) : Prop :=
  ∀ (i : Nat) (H1 : Hp) (W1 : Addr → Prop), FrW H W H1 W1 → (ds.length ≤ i → J.stop i H1) ∧ ∀ d, ds[i]? = some d → J.go i H1 ∧ ∀ v H2, J.yld i H1 v H2 → Same H1 H2 ∧ ∃ F, Rep K H2 d v F ∧ ∀ a ∈ F, ¬ W1 a
noncomputable def wz (pr : Bool) (W : Addr → Prop) : Addr → Prop := fun a => pr = true ∧ W a
noncomputable def IV (X : Cx) (T : Tg) (m pr : Bool) (tg iter : Expr) (w : WL) : Prop :=
  ∃ wi, PI X tg iter wi ∧ ∀ (z : Nat → V) (R : Addr → Prop) (σ : St) (H : Hp) (W : Addr → Prop) (ρ : Env) (Q : List D → Env → Prop) (RR : It → Hp → Prop), SR X.K T z R H W σ ρ → w ρ Q →
    (∀ J H' W' ds ρ', PostT X.K T z R m H W σ ρ H' W' ρ' → JD X.K J H' (wz pr W') ds → Q ds ρ' → RR J H') → wi σ H RR
variable {tg iter : Expr}
theorem pi_seq {l : Expr} {tl : TE} (hl : PE X l tl) : PI X tg l (fun σ H R => tl σ H fun x H1 => ∃ a, x = .ref a ∧ (((∃ xs, SqL X.K H1 a xs) ∧ R (Itl X.K a) H1) ∨ ((∃ xs, SqT X.K H1 a xs) ∧ R (Itt X.K a) H1))) := by
  intro pins s σ H R I h
  refine thn (hl pins s σ H _ I h) fun v s1 ⟨x, H1, I1, r1, q1⟩ => ?_
  obtain ⟨a, e, q⟩ := q1
  subst e
  cases r1
  rcases q with ⟨⟨xs, hq⟩, q⟩ | ⟨⟨xs, hq⟩, q⟩
  · obtain ⟨its, rv, p, hz⟩ := I1.list hq
    refine wpAny_pyIter_list p.isList ?_
    refine ⟨s1.heap.objs.size, [s1.heap.objs.size], _, _, H1, rfl, I1.kept (t' := s1.toks) fun b o e => Heap.get?_push_of_some _ e, turn_list a _, ⟨_, Heap.get?_push_size _ rfl, rfl, rfl⟩, fun b hb => ?_, q⟩
    have e : b = s1.heap.objs.size := by simpa using hb
    subst e
    exact I1.fpOk (Nat.le_refl _) (I1.hok.fresh (Nat.le_refl _))
  · obtain ⟨its, rv, p, hz⟩ := I1.tuple hq
    refine wpAny_pyIter_tuple (show s1.heap.IsTuple a its.toArray from p) ?_
    refine ⟨s1.heap.objs.size, [s1.heap.objs.size], _, _, H1, rfl, I1.kept (t' := s1.toks) fun b o e => Heap.get?_push_of_some _ e, turn_tuple a _, ⟨_, Heap.get?_push_size _ rfl, rfl, rfl⟩, fun b hb => ?_, q⟩
    have e : b = s1.heap.objs.size := by simpa using hb
    subst e
    exact I1.fpOk (Nat.le_refl _) (I1.hok.fresh (Nat.le_refl _))
noncomputable def seqD (pr : Bool) : D → Option (List D)
  | .tup ds => if pureL ds then some ds else none
  | .lst ds => some ds
  | _ => none
noncomputable def wSeqD (w : WE) : WL := fun ρ Q => w ρ fun d ρ' => match d with
  | .tup ds => pureL ds = true ∧ Q ds ρ'
  | .lst ds => Q ds ρ'
  | _ => False
theorem iv_seq (h : EV X T m o e w) : IV X T m o tg e (wSeqD w) := by
  obtain ⟨te, pe, ge⟩ := h
  refine ⟨_, pi_seq pe, fun z R σ H W ρ Q RR s hw k => ?_⟩
  refine ge z R σ H W ρ _ _ s hw fun v H1 W1 d ρ1 F p q => ?_
  cases d with
  | tup ds =>
    obtain ⟨hp, q⟩ := q
    obtain ⟨hF, rp⟩ := p.rep.pure (by simpa [D.pure] using hp)
    cases rp with
    | @tup a xs _ _ e1 r =>
      refine ⟨a, rfl, .inr ⟨⟨xs, .of e1⟩, k _ H1 W1 ds ρ1 ⟨p.sr, p.fr, p.calm⟩ (fun i H2 W2 f => ?_) q⟩⟩
      have e2 : H2 a = some (.tup xs) := f.imm _ _ e1 rfl
      refine ⟨fun hi => ⟨xs, .of e2, by rw [r.length]; exact hi⟩, fun d hd => ?_⟩
      obtain ⟨x, B, hx, rx, sx⟩ := r.get hd
      refine ⟨⟨xs, x, .of e2, hx⟩, fun v H3 y => ?_⟩
      obtain ⟨rfl, y⟩ := y
      have := y xs (.of e2)
      rw [hx] at this
      cases this
      exact ⟨Same.refl _, B, rx.keep f (fun a ha => (nomatch sx.subset ha)), (fun a ha => (nomatch sx.subset ha))⟩
  | lst ds =>
    obtain ⟨p1, p2, p3, p4, p5⟩ := p
    cases p4 with
    | @lst a xs _ F e1 r =>
      refine ⟨a, rfl, .inl ⟨⟨xs, .of e1⟩, k _ H1 W1 ds ρ1 ⟨p1, p2, p3⟩ (fun i H2 W2 f => ?_) q⟩⟩
      have nW : ∀ b ∈ a :: F, ¬ wz o W1 b := fun b hb hw => by
        obtain ⟨h1, h2⟩ := hw
        exact ((p5 h1).2 b hb).2 h2
      have e2 : H2 a = some (.lst xs) := f.keep _ _ e1 (nW a List.mem_cons_self)
      refine ⟨fun hi => ⟨xs, .of e2, by rw [r.length]; exact hi⟩, fun d hd => ?_⟩
      obtain ⟨x, B, hx, rx, sx⟩ := r.get hd
      refine ⟨⟨xs, x, .of e2, hx⟩, fun v H3 y => ?_⟩
      obtain ⟨rfl, y⟩ := y
      have := y xs (.of e2)
      rw [hx] at this
      cases this
      refine ⟨Same.refl _, B, rx.keep f fun b hb => nW b (List.mem_cons_of_mem _ (sx.subset hb)), fun b hb hw => ?_⟩
      have hb' : b ∈ a :: F := List.mem_cons_of_mem _ (sx.subset hb)
      rcases f.new b hw with h | h
      · exact nW b hb' h
      · obtain ⟨ob, e3, _⟩ := rx.dom b hb
        rw [h] at e3; cases e3
  | _ => exact q.elim
noncomputable def rngD (lo : Int) (n : Nat) : List D := (List.range n).map fun (i : Nat) => .int (lo + (i : Int))
end
end PV
set_option Elab.async false
set_option linter.all false
set_option maxRecDepth 100000
set_option maxHeartbeats 4000000
namespace PV
open PySem PySem.Spec L2
structure EndsP where
  nx : Env → Prop
  rt : D → Env → Prop
  bk : Env → Prop := fun _ => False
  ct : Env → Prop := fun _ => False
  xc : D → Env → Prop := fun _ _ => False
noncomputable abbrev WS := EndsP → Env → Prop
structure Lk (K : PySem.W.Frag) (T : Tg) (z : Nat → V) (H : Hp) (W : Addr → Prop) (P : EndsP) (E : Ends) : Prop where
  nx : ∀ R σ' H' W' ρ', SR K T z R H' W' σ' ρ' → FrW H W H' W' → P.nx ρ' → E.nx σ' H'
  bk : ∀ R σ' H' W' ρ', SR K T z R H' W' σ' ρ' → FrW H W H' W' → P.bk ρ' → E.bk σ' H'
  ct : ∀ R σ' H' W' ρ', SR K T z R H' W' σ' ρ' → FrW H W H' W' → P.ct ρ' → E.ct σ' H'
  rt : ∀ R v σ' H' W' ρ' d F, SR K T z R H' W' σ' ρ' → FrW H W H' W' → Rep K H' d v F → F.Nodup → (∀ a ∈ F, ¬ W' a ∧ (W a ∨ H a = none)) → P.rt d ρ' → E.rt v H'
  xc : ∀ R σ' H' W' ρ' d, SR K T z R H' W' σ' ρ' → FrW H W H' W' → P.xc d ρ' → T.xe d σ' H'
theorem Lk.step {K : PySem.W.Frag} {T : Tg} {z : Nat → V} {H H1 : Hp} {W W1 : Addr → Prop} {P : EndsP} {E : Ends} (l : Lk K T z H W P E) (f : FrW H W H1 W1) : Lk K T z H1 W1 P E where
  nx := fun R σ' H' W' ρ' s g q => l.nx R σ' H' W' ρ' s (f.trans g) q
  bk := fun R σ' H' W' ρ' s g q => l.bk R σ' H' W' ρ' s (f.trans g) q
  ct := fun R σ' H' W' ρ' s g q => l.ct R σ' H' W' ρ' s (f.trans g) q
  rt := fun R v σ' H' W' ρ' d F s g r nd k q => l.rt R v σ' H' W' ρ' d F s (f.trans g) r nd (fun a ha => ⟨(k a ha).1, by
    rcases (k a ha).2 with h | h
    · exact f.new a h
    · exact .inr (f.dom a h)⟩) q
  xc := fun R σ' H' W' ρ' d s g q => l.xc R σ' H' W' ρ' d s (f.trans g) q
noncomputable def SV (X : Cx) (T : Tg) (st : Stmt) (w : WS) : Prop :=
  ∃ ts, PS X st ts ∧ ∀ (z : Nat → V) (R : Addr → Prop) (σ : St) (H : Hp) (W : Addr → Prop) (ρ : Env) (P : EndsP) (E : Ends), SR X.K T z R H W σ ρ → w P ρ → Lk X.K T z H W P E → ts E σ H
noncomputable def SVs (X : Cx) (T : Tg) (st : List Stmt) (w : WS) : Prop :=
  ∃ ts, PSs X st ts ∧ ∀ (z : Nat → V) (R : Addr → Prop) (σ : St) (H : Hp) (W : Addr → Prop) (ρ : Env) (P : EndsP) (E : Ends), SR X.K T z R H W σ ρ → w P ρ → Lk X.K T z H W P E → ts E σ H
section
variable {X : Cx} {T : Tg} {m o m0 m1 m2 m3 o1 o2 : Bool} {e a b : Expr} {w wa wb : WE} {pos p2 p : Pos} {es : List Expr} {wr : WA} {x : Str} {st : Stmt} {rest : List Stmt} {ws wu : WS} {wt : WT}
noncomputable def wNext : WS := fun P ρ => P.nx ρ
noncomputable def wSeq (w u : WS) : WS := fun P ρ => w { P with nx := u P } ρ
theorem svs_nil : SVs X T [] wNext := ⟨_, pss_nil, fun z R σ H W ρ P E s hw l => l.nx R σ H W ρ s (FrW.refl H W) hw⟩
theorem svs_one (h : SV X T st ws) : SVs X T [st] ws := by
  obtain ⟨t, pt, g⟩ := h
  exact ⟨_, pss_one pt, g⟩
theorem svs_cons (h : SV X T st ws) (hr : SVs X T rest wu) : SVs X T (st :: rest) (wSeq ws wu) := by
  obtain ⟨t, pt, g⟩ := h
  obtain ⟨u, pu, gu⟩ := hr
  refine ⟨_, pss_cons pt pu, fun z R σ H W ρ P E s hw l => g z R σ H W ρ _ _ s hw ⟨fun R' σ' H' W' ρ' s' f q => gu z R' σ' H' W' ρ' P E s' q (l.step f), l.bk, l.ct, l.rt, l.xc⟩⟩
noncomputable def wDrop (w : WE) : WS := fun P ρ => w ρ fun _ ρ' => P.nx ρ'
theorem sv_expr (he : EV X T m o e w) (hs : swapsWith e none pos.line X.env = pure false := by rfl) : SV X T (.Expr e pos) (wDrop w) := by
  obtain ⟨te, pe, ge⟩ := he
  exact ⟨_, ps_expr pe hs, fun z R σ H W ρ P E s hw l => ge z R σ H W ρ _ _ s hw fun v H1 W1 d ρ1 F p q => l.nx R σ H1 W1 ρ1 p.sr p.fr q⟩
noncomputable def wRet (w : WE) : WS := fun P ρ => w ρ fun d ρ' => P.rt d ρ'
theorem sv_ret (he : EV X T m true e w) : SV X T (.Return (some e) pos) (wRet w) := by
  obtain ⟨te, pe, ge⟩ := he
  exact ⟨_, ps_ret pe, fun z R σ H W ρ P E s hw l => ge z R σ H W ρ _ _ s hw fun v H1 W1 d ρ1 F p q => l.rt R v σ H1 W1 ρ1 d F p.sr p.fr p.rep (p.own rfl).1 (fun a ha => ⟨((p.own rfl).2 a ha).2, .inr ((p.own rfl).2 a ha).1⟩) q⟩
theorem sv_retN : SV X T (.Return none pos) (fun P ρ => P.rt .non ρ) :=
  ⟨_, ps_retN, fun z R σ H W ρ P E s hw l => l.rt R .non σ H W ρ .non [] s (FrW.refl H W) .non List.nodup_nil (fun a m => nomatch m) hw⟩
noncomputable def wRetS (i : Nat) : WS := fun P ρ => oget (look ρ i) fun d => P.rt d (ρ.set i none)
theorem sv_retS {i : Nat} (ht : T.own i = true := by rfl) (hN : X.N[i]? = some x := by rfl) (hv : Vis X.env.scope x := by first | exact Or.inl rfl | exact Or.inr (Or.inl rfl) | exact Or.inr (Or.inr rfl)) (hd : (x == ("__debug__" : Str)) = false := by decide)
    (hcd : (x == ("__classdict__" : Str)) = false := by decide) : SV X T (.Return (some (.Name x p)) pos) (wRetS i) := by
  refine ⟨_, ps_ret (pe_var hN hv hd hcd), fun z R σ H W ρ P E s hw l => ?_⟩
  obtain ⟨d, hl, q⟩ := oget_some hw
  obtain ⟨fp, s0⟩ := s
  obtain ⟨v, h1, h2⟩ := s0.at_ i d hl
  have key : ∀ j e, look (ρ.set i none) j = some e → j ≠ i ∧ look ρ j = some e := fun j e h => by
    rw [look_set] at h
    split at h
    · cases h
    · refine ⟨fun z => ?_, h⟩
      subst z
      rename_i hn
      exact hn ⟨rfl, look_lt hl⟩
  refine ⟨v, h1, l.rt R v σ H (fun a => W a ∧ a ∉ fp i) (ρ.set i none) d (fp i) ⟨fp, ?_⟩ ?_ h2 (s0.own i d hl ht).1 (fun a ha => ⟨fun h => h.2 ha, .inl ((s0.own i d hl ht).2 a ha)⟩) q⟩
  · refine ⟨by rw [List.length_set]; exact s0.len, fun a h => s0.wd a h.1, fun j e h => s0.at_ j e (key j e h).2, fun j e h t => ⟨(s0.own j e (key j e h).2 t).1, fun a ha => ⟨(s0.own j e (key j e h).2 t).2 a ha, fun ha' => s0.dis j i e d (key j e h).2 hl t ht (key j e h).1 a ha ha'⟩⟩,
      fun j e h t => s0.ro j e (key j e h).2 t, fun a h => s0.wr a h.1, s0.rd, fun j k e e' h h' t t' => s0.dis j k e e' (key j e h).2 (key k e' h').2 t t', s0.fix⟩
  · exact ⟨fun b ob e _ => e, fun b e => e, fun b ob e _ => e, fun b h => .inl h.1⟩
theorem SR0.bind {K : PySem.W.Frag} {z : Nat → V} {R : Addr → Prop} {H : Hp} {W : Addr → Prop} {σ : St} {ρ : Env} {fp : Nat → List Addr} {i : Nat} {d : D} {v : V} {F : List Addr} (s : SR0 K T z R H W σ ρ fp) (hio : i ∉ T.io) (r : Rep K H d v F) (nd : F.Nodup) (nw : ∀ a ∈ F, ¬ W a ∧ ¬ R a) :
    ∃ R', SR K T z R' H (fun a => W a ∨ (T.own i = true ∧ a ∈ F)) (σ.set i (some v)) (ρ.set i (some d)) := by
  refine ⟨fun a => R a ∨ (T.own i = false ∧ a ∈ F), fun j => if j = i then F else fp j, ?_, ?_, ?_, ?_, ?_, ?_, ?_, ?_, ?_⟩
  · rw [List.length_set, List.length_set]; exact s.len
  · intro a ha
    rcases ha with ha | ⟨_, ha⟩
    · exact s.wd a ha
    · exact r.dom a ha
  · intro j e hj
    rw [look_set] at hj
    split at hj
    · rename_i h
      obtain ⟨rfl, hlt⟩ := h
      cases hj
      exact ⟨v, by rw [List.getElem?_set_self (by rw [← s.len]; exact hlt)], by rw [if_pos rfl]; exact r⟩
    · rename_i h
      obtain ⟨u, h1, h2⟩ := s.at_ j e hj
      have hji : j ≠ i := fun z => h ⟨z, by rw [← z]; exact look_lt hj⟩
      exact ⟨u, by rw [List.getElem?_set_ne (Ne.symm hji)]; exact h1, by rw [if_neg hji]; exact h2⟩
  · intro j e hj hto
    by_cases hji : j = i
    · subst hji; simp only [if_pos]; exact ⟨nd, fun a h => .inr ⟨hto, h⟩⟩
    · rw [look_set_ne hji] at hj
      simp only [if_neg hji]
      exact ⟨(s.own j e hj hto).1, fun a h => .inl ((s.own j e hj hto).2 a h)⟩
  · intro j e hj hto
    by_cases hji : j = i
    · subst hji; simp only [if_pos]; exact fun a h => .inr ⟨hto, h⟩
    · rw [look_set_ne hji] at hj
      simp only [if_neg hji]
      exact fun a h => .inl (s.ro j e hj hto a h)
  · intro a ha hr
    rcases ha with ha | ⟨t, ha⟩
    · rcases hr with hr | ⟨_, hr⟩
      · exact s.wr a ha hr
      · exact (nw a hr).1 ha
    · rcases hr with hr | ⟨t', hr⟩
      · exact (nw a ha).2 hr
      · rw [t] at t'; cases t'
  · intro a hr
    rcases hr with hr | ⟨_, hr⟩
    · exact s.rd a hr
    · exact r.dom a hr
  · intro j k e e' hj hk tj tk hne a ha ha'
    by_cases hji : j = i
    · subst hji
      have hkj : k ≠ j := fun z => hne z.symm
      rw [look_set_ne hkj] at hk
      simp only [if_pos, if_neg hkj] at ha ha'
      exact (nw a ha).1 ((s.own k e' hk tk).2 a ha')
    · rw [look_set_ne hji] at hj
      simp only [if_neg hji] at ha
      by_cases hki : k = i
      · subst hki
        simp only [if_pos] at ha'
        exact (nw a ha').1 ((s.own j e hj tj).2 a ha)
      · rw [look_set_ne hki] at hk
        simp only [if_neg hki] at ha'
        exact s.dis j k e e' hj hk tj tk hne a ha ha'
  · intro j hj
    have hji : j ≠ i := fun z => hio (z ▸ hj)
    rw [List.getElem?_set_ne (Ne.symm hji)]
    exact s.fix j hj
noncomputable def wSet (i : Nat) (w : WE) : WS := fun P ρ => w ρ fun d ρ' => P.nx (ρ'.set i (some d))
theorem frw_more {H H' : Hp} {W W' : Addr → Prop} {G : Addr → Prop} (f : FrW H W H' W') (n : ∀ a, G a → H a = none) : FrW H W H' (fun a => W' a ∨ G a) :=
  ⟨f.keep, f.dom, f.imm, fun b h => h.elim (f.new b) fun h => .inr (n b h)⟩
theorem sv_set {i : Nat} {pos' : Pos} (he : EV X T m true e w) (hN : X.N.Nodup) (hi : X.N[i]? = some x := by rfl) (hio : i ∉ T.io := by decide) (hx : Loc X.env.scope x := by first | exact Or.inl rfl | exact Or.inr rfl) (hs : swapsWith e (some (.Name x pos')) pos.line X.env = pure false := by rfl)
    (hf : X.fn x = true ∨ X.env.scope.names.lookup x = some .local := by first | exact .inl rfl | exact .inr rfl | assumption) : SV X T (.Assign [.Name x pos'] e pos) (wSet i w) := by
  obtain ⟨te, pe, ge⟩ := he
  refine ⟨_, ps_set hN hi hx pe hs hf, fun z R σ H W ρ P E s hw l => ge z R σ H W ρ _ _ s hw fun v H1 W1 d ρ1 F p q => ?_⟩
  obtain ⟨fp, s1⟩ := p.sr
  obtain ⟨nd, nw⟩ := p.own rfl
  obtain ⟨R', s2⟩ := s1.bind (i := i) hio p.rep nd (fun a ha => ⟨(nw a ha).2, s.nr (nw a ha).1⟩)
  exact l.nx R' _ H1 _ _ s2 (frw_more p.fr fun a h => (nw a h.2).1) q
noncomputable abbrev WG := D → Env → (Env → Prop) → Prop
noncomputable def GV (X : Cx) (T : Tg) (tg : Expr) (wg : WG) : Prop :=
  ∃ t, PG X tg t ∧ ∀ (z : Nat → V) (R : Addr → Prop) (σ : St) (H : Hp) (W : Addr → Prop) (ρ : Env) (d : D) (v : V) (Q : Env → Prop) (Q' : St → Hp → Prop), SR X.K T z R H W σ ρ → Rep X.K H d v [] → d.pure = true → wg d ρ Q →
    (∀ R' W' σ' ρ', SR X.K T z R' H W' σ' ρ' → FrW H W H W' → Q ρ' → Q' σ' H) → t v σ H Q'
noncomputable def gN (i : Nat) : WG := fun d ρ Q => Q (ρ.set i (some d))
theorem gv_name {i : Nat} (hN : X.N.Nodup) (hi : X.N[i]? = some x := by rfl) (hio : i ∉ T.io := by decide) (hx : Loc X.env.scope x := by first | exact Or.inl rfl | exact Or.inr rfl) (hf : X.fn x = true ∨ X.env.scope.names.lookup x = some .local := by first | exact .inl rfl | exact .inr rfl | assumption) : GV X T (.Name x pos) (gN i) := by
  refine ⟨_, pg_name hN hi hx hf, fun z R σ H W ρ d v Q Q' s r hp hw k => ?_⟩
  obtain ⟨fp, s1⟩ := s
  obtain ⟨R', s2⟩ := s1.bind (i := i) hio r List.nodup_nil (fun a ha => nomatch ha)
  exact k R' _ _ _ s2 (frw_more (FrW.refl H W) fun a h => nomatch h.2) hw
noncomputable def dSet (s c d : D) (k : D → Prop) : Prop := match s with
  | .lst xs => onI c fun j => oget (ixN xs.length j) fun n => k (.lst (xs.set n d))
  | .dik kvs => onK c fun key => kvs.length < sizeLine ∧ k (.dik (putD kvs key d))
  | .dit kvs => onT c fun l => kvs.length < sizeLine ∧ oget (keysOf l) fun ks => k (.dit (putD kvs ks d))
  | _ => False
theorem set_dict (hu : X.A.units + 1 < cLine) : PSet X (fun o i v H Q => ∃ a H', o = .ref a ∧ DPut H a i v H' ∧ Q H') := by
  intro pins s σ H o i v ov iv u Q I ro ri rv h
  obtain ⟨a, H', rfl, g, q⟩ := h
  cases ro
  exact d_setItem hu I g ri rv fun s' I' => ⟨H', I', q⟩
theorem PSet.or {t u : TSet} (h : PSet X t) (h' : PSet X u) : PSet X (fun o i v H Q => t o i v H Q ∨ u o i v H Q) := by
  intro pins s σ H o i v ov iv u Q I ro ri rv q
  rcases q with q | q
  · exact h pins s σ H o i v ov iv u Q I ro ri rv q
  · exact h' pins s σ H o i v ov iv u Q I ro ri rv q
noncomputable def wSetIx (i : Nat) (wv wi : WE) : WS := fun P ρ => wv ρ fun d ρ1 => d.pure = true ∧ (look ρ1 i).isSome = true ∧ wi ρ1 fun c ρ2 => oget (look ρ2 i) fun s => dSet s c d fun s' => P.nx (ρ2.set i (some s'))
theorem sv_setIx {i : Nat} {v ix : Expr} {wv wi : WE} {px ps' : Pos} (hu : X.A.units + 1 < cLine) (hv : EV X T m1 o1 v wv) (hi : EV X T m2 o2 ix wi) (ht : T.own i = true := by rfl) (hN : X.N[i]? = some x := by rfl)
    (hvis : Vis X.env.scope x := by first | exact Or.inl rfl | exact Or.inr (Or.inl rfl) | exact Or.inr (Or.inr rfl)) (hd : (x == ("__debug__" : Str)) = false := by decide) (hcd : (x == ("__classdict__" : Str)) = false := by decide)
    (ha : ∀ v, assign (.Subscript (.Name x px) ix ps') X.env v = (do
      let ov ← holding [v] (eval (.Name x px) X.env)
      let iv ← holding [v, ov] (eval ix X.env)
      standAt ps'
      holding [v, ov, iv] (setItem ov iv v)
      release [v, ov, iv] []) := by intro _; rfl) (hs : swapsWithSole [.Subscript (.Name x px) ix ps'] v pos.line X.env = pure false := by rfl) (hw : swappedStores [.Subscript (.Name x px) ix ps'] v X.env = pure none := by rfl)
    (h1 : (assignEach [.Subscript (.Name x px) ix ps'] X.env).map (·.2) = [assign (.Subscript (.Name x px) ix ps') X.env] := by rfl) : SV X T (.Assign [.Subscript (.Name x px) ix ps'] v pos) (wSetIx i wv wi) := by
  obtain ⟨tv, pv, gv⟩ := hv
  obtain ⟨ti, pi, gi⟩ := hi
  refine ⟨_, ps_asg pv (pg_sub (pe_var hN hvis hd hcd) pi (PSet.or set_list (set_dict hu)) ha) hs hw h1, fun z R σ H W ρ P E s hw l => ?_⟩
  refine gv z R σ H W ρ _ _ s hw fun v1 H1 W1 d ρ1 F1 p ⟨hp, hso, q⟩ => ?_
  obtain ⟨-, rv⟩ := p.rep.pure hp
  obtain ⟨d0, hl0⟩ := Option.isSome_iff_exists.mp hso
  obtain ⟨fp0, s0⟩ := id p.sr
  obtain ⟨u, hu', _⟩ := s0.at_ i d0 hl0
  refine ⟨u, hu', gi z R σ H1 W1 ρ1 _ _ p.sr q fun v2 H2 W2 c ρ2 F2 p2 q2 => ?_⟩
  obtain ⟨d1, hl, q2⟩ := oget_some q2
  obtain ⟨fp, s2⟩ := id p2.sr
  obtain ⟨u', hu2, ru⟩ := s2.at_ i d1 hl
  have : u' = u := by rw [hu'] at hu2; cases hu2; rfl
  subst this
  have rv2 : Rep X.K H2 d v1 [] := rv.keep p2.fr fun a m => nomatch m
  obtain ⟨nd, sw⟩ := s2.own i d1 hl ht
  have fin : ∀ (lad : Addr) (ob : HO) (d' : D) (F' : List Addr), lad ∈ fp i → imm ob = false → Rep X.K (upd H2 lad ob) d' u' F' → F'.Nodup → (∀ a ∈ F', a ∈ fp i) → P.nx (ρ2.set i (some d')) → E.nx σ (upd H2 lad ob) := fun lad ob d' F' hm him r' nd' sub hq => by
    have hW := sw lad hm
    exact l.nx R σ _ _ _ (s2.write hl ht hu2 hm upd_keep ⟨ob, upd_same, him⟩ r' nd' fun a ha => .inl (sub a ha)) ((p.fr.trans p2.fr).write hW (s2.wd lad hW) upd_keep ⟨ob, upd_same, him⟩ fun a ha => .inl (sw a (sub a ha))) hq
  have nilnot : ∀ a : Addr, a ∉ ([] : List Addr) := fun a h => nomatch h
  generalize hF : fp i = F at *
  cases d1 with
  | lst ds =>
    obtain ⟨j, rfl, q2⟩ := onI_inv q2
    obtain ⟨a, xs, G, rfl, rfl, e, r⟩ := ru.iLst
    obtain ⟨n, hn, hq⟩ := oget_some q2
    have rc := p2.rep.iInt
    subst rc
    have hlt := (ixN_seq hn).2.1
    obtain ⟨dn, hdn⟩ : ∃ dn, ds[n]? = some dn := ⟨ds[n], List.getElem?_eq_getElem hlt⟩
    obtain ⟨y, A, B, C, hy, hG, rB, rA, rC⟩ := r.split hdn
    obtain ⟨na, ndG⟩ := List.nodup_cons.mp nd
    have sub := sub3 hG
    have nAC : a ∉ A ++ C := fun h => na (sub.subset h)
    have hxl : n < xs.length := by rw [r.length]; exact hlt
    refine .inl ⟨a, xs, j, n, rfl, rfl, e, by rw [r.length]; exact hn, ?_⟩
    refine fin a _ _ (a :: (A ++ C)) List.mem_cons_self rfl (.lst upd_same ?_) (List.nodup_cons.mpr ⟨nAC, ndG.sublist sub⟩) (fun b hb => ?_) hq
    · rw [take_set_drop hlt, take_set_drop hxl]
      have := (rA.upd (ob' := .lst (xs.take n ++ v1 :: xs.drop (n + 1))) e rfl (fun h => nAC (List.mem_append.mpr (.inl h)))).append (.cons (rv2.upd e rfl (nilnot a)) (rC.upd e rfl fun h => nAC (List.mem_append.mpr (.inr h))))
      simpa using this
    · rcases List.mem_cons.mp hb with rfl | hb
      · exact List.mem_cons_self
      · exact List.mem_cons_of_mem _ (sub.subset hb)
  | dik ds =>
    obtain ⟨key, ⟨hz, hq⟩, hy⟩ := onK_inv (show onK c (fun key => ds.length < sizeLine ∧ P.nx (ρ2.set i (some (.dik (putD ds key d))))) from q2)
    obtain ⟨a, kvs, G, rfl, rfl, e, r⟩ := ru.iDik
    obtain rfl := hy p2.rep
    obtain ⟨na, ndG⟩ := List.nodup_cons.mp nd
    obtain ⟨G', rp, sub⟩ := (r.upd (ob' := .dK (putK kvs key v1)) e rfl na).put (k := key) (rv2.upd e rfl (nilnot a))
    refine .inr ⟨a, _, rfl, DPut.k (k := key) e (by rw [r.length]; exact hz), ?_⟩
    refine fin a _ _ (a :: G') List.mem_cons_self rfl (.dik upd_same rp) (List.nodup_cons.mpr ⟨fun h => na (sub.subset h), ndG.sublist sub⟩) (fun b hb => ?_) hq
    rcases List.mem_cons.mp hb with rfl | hb
    · exact List.mem_cons_self
    · exact List.mem_cons_of_mem _ (sub.subset hb)
  | dit ds =>
    obtain ⟨l', rfl, hz, q2⟩ := onT_inv q2
    obtain ⟨a, kvs, G, rfl, rfl, e, r⟩ := ru.iDit
    obtain ⟨na, ndG⟩ := List.nodup_cons.mp nd
    obtain ⟨ks, hk, hq⟩ := oget_some q2
    obtain ⟨b, ys, rfl, e2, r2⟩ := p2.rep.iTup
    have hx := r2.keys hk
    subst hx
    obtain ⟨G', rp, sub⟩ := (r.upd (ob' := .dT (putK kvs ks v1)) e rfl na).put (k := ks) (rv2.upd e rfl (nilnot a))
    refine .inr ⟨a, _, rfl, DPut.t (k := ks) e e2 (by rw [r.length]; exact hz), ?_⟩
    refine fin a _ _ (a :: G') List.mem_cons_self rfl (.dit upd_same rp) (List.nodup_cons.mpr ⟨fun h => na (sub.subset h), ndG.sublist sub⟩) (fun b hb => ?_) hq
    rcases List.mem_cons.mp hb with rfl | hb
    · exact List.mem_cons_self
    · exact List.mem_cons_of_mem _ (sub.subset hb)
  | _ => exact (show False from q2).elim
noncomputable def wIf (wt : WT) (w u : WS) : WS := fun P ρ => wt ρ fun b ρ' => if b = true then w P ρ' else u P ρ'
theorem sv_if {c : Expr} {sa sb : List Stmt} (hc : TV X T m c wt) (ha : SVs X T sa ws) (hb : SVs X T sb wu) : SV X T (.If c sa sb pos) (wIf wt ws wu) := by
  obtain ⟨tc, pc, gc⟩ := hc
  obtain ⟨ta, pa, ga⟩ := ha
  obtain ⟨tb, pb, gb⟩ := hb
  refine ⟨_, ps_if pc pa pb, fun z R σ H W ρ P E s hw l => gc z R σ H W ρ _ _ s hw fun b H1 W1 ρ1 p q => ?_⟩
  cases b with
  | true => exact ga z R σ H1 W1 ρ1 P E p.sr q (l.step p.fr)
  | false => exact gb z R σ H1 W1 ρ1 P E p.sr q (l.step p.fr)
noncomputable def wFor (wl : WL) (wg : WG) (wb : WS) : WS := fun P ρ => wl ρ fun ds ρ1 => pureL ds = true ∧ ∃ I : Nat → Env → Prop, I 0 ρ1 ∧
  (∀ i d ρ, ds[i]? = some d → I i ρ → wg d ρ fun ρ' => wb { P with nx := I (i + 1), ct := I (i + 1), bk := P.nx } ρ') ∧ ∀ ρ, I ds.length ρ → P.nx ρ
theorem wz_true (W : Addr → Prop) : wz true W = W := by funext a; simp [wz]
theorem sv_for {tg iter : Expr} {body : List Stmt} {wl : WL} {wg : WG} (hp : PassesOwn (model X.prog X.w) X.A X.env X.xe) (hi : IV X T m true tg iter wl) (hg : GV X T tg wg) (hb : SVs X T body ws) (hc : X.calm = true := by rfl)
    (hs : ∀ x, foldedSetIterable iter X.env x = pure x := by intro _; rfl) : SV X T (.For tg iter body [] pos) (wFor wl wg ws) := by
  obtain ⟨ti, pi, gi⟩ := hi
  obtain ⟨tt, pt, gt⟩ := hg
  obtain ⟨tb, pb, gb⟩ := hb
  refine ⟨_, ps_for hp hc pi pt pb hs, fun z R σ H W ρ P E s hw l => gi z R σ H W ρ _ _ s hw fun J H1 W1 ds ρ1 p jd q => ?_⟩
  rw [wz_true] at jd
  obtain ⟨hpu, I, h0, hI, hd⟩ := q
  refine ⟨fun i n σ' H' => n = ds.length - i ∧ i ≤ ds.length ∧ ∃ R' W' ρ', SR X.K T z R' H' W' σ' ρ' ∧ FrW H1 W1 H' W' ∧ I i ρ', ⟨ds.length, by simp, Nat.zero_le _, R, W1, ρ1, p.sr, FrW.refl _ _, h0⟩, ?_⟩
  rintro i n σ2 H2 ⟨rfl, hi, R2, W2, ρ2, s2, f2, i2⟩
  obtain ⟨j1, j2⟩ := jd i H2 W2 f2
  by_cases hlt : i < ds.length
  · have hdi : ds[i]? = some ds[i] := List.getElem?_eq_getElem hlt
    obtain ⟨hgo, hy⟩ := j2 _ hdi
    have hpd : (ds[i]).pure = true := pureL_iff.mp hpu _ (List.getElem_mem hlt)
    refine .inr ⟨hgo, fun σ' H' => i + 1 ≤ ds.length ∧ ∃ R' W' ρ', SR X.K T z R' H' W' σ' ρ' ∧ FrW H1 W1 H' W' ∧ I (i + 1) ρ', fun σ' H' ⟨h1, h2⟩ => ⟨ds.length - (i + 1), by omega, rfl, h1, h2⟩, fun v H3 yl => ?_⟩
    obtain ⟨sm, F, rv, _⟩ := hy v H3 yl
    obtain ⟨-, rv⟩ := rv.pure hpd
    have f3 : FrW H1 W1 H3 W2 := f2.trans (FrW.same W2 sm)
    refine gt z R2 σ2 H3 W2 ρ2 _ v _ _ (s2.same sm) rv hpd (hI i _ ρ2 hdi i2) fun R4 W4 σ4 ρ4 s4 f4 q4 => ?_
    refine gb z R4 σ4 H3 W4 ρ4 _ _ s4 q4 ⟨?_, ?_, ?_, ?_, ?_⟩
    · exact fun R' σ' H' W' ρ' s' f' h => ⟨hlt, R', W', ρ', s', (f3.trans f4).trans f', h⟩
    · exact fun R' σ' H' W' ρ' s' f' h => l.nx R' σ' H' W' ρ' s' (((p.fr.trans f3).trans f4).trans f') h
    · exact fun R' σ' H' W' ρ' s' f' h => ⟨hlt, R', W', ρ', s', (f3.trans f4).trans f', h⟩
    · exact (((l.step p.fr).step f3).step f4).rt
    · exact (((l.step p.fr).step f3).step f4).xc
  · have e : i = ds.length := by omega
    subst e
    exact .inl ⟨j1 (Nat.le_refl _), l.nx R2 σ2 H2 W2 ρ2 s2 (p.fr.trans f2) (hd ρ2 i2)⟩
end
end PV
set_option Elab.async false
set_option linter.all false
set_option maxRecDepth 100000
set_option maxHeartbeats 4000000
namespace PV
open PySem PySem.Spec L2
open PyProof.Rows (envOfC)
noncomputable def Any (H : Hp) : Addr → Prop := fun a => ∃ ob, H a = some ob ∧ imm ob = false
theorem SR.readonly {K : PySem.W.Frag} {T : Tg} {z : Nat → V} {H : Hp} {σ : St} {ρ : Env} (hio : T.io = []) (hlen : ρ.length = σ.length) (h : ∀ i d, look ρ i = some d → T.own i = false ∧ ∃ v F, σ[i]? = some (some v) ∧ Rep K H d v F) :
    SR K T z (Any H) H (fun _ => False) σ ρ := by
  have ch : ∀ i, ∃ F, ∀ d, look ρ i = some d → ∃ v, σ[i]? = some (some v) ∧ Rep K H d v F := fun i => by
    cases hl : look ρ i with
    | none => exact ⟨[], fun d e => nomatch e⟩
    | some d =>
      obtain ⟨_, v, F, h1, h2⟩ := h i d hl
      exact ⟨F, fun d' e => by cases e; exact ⟨v, h1, h2⟩⟩
  refine ⟨fun i => Classical.choose (ch i), hlen, fun a h => h.elim, fun i d hl => Classical.choose_spec (ch i) d hl, fun i d hl ht => ?_, fun i d hl ht a ha => ?_, fun a h => h.elim, fun a h => h, fun i j d e hl hl' ht => ?_, fun i hi => ?_⟩
  · rw [(h i d hl).1] at ht; cases ht
  · obtain ⟨v, _, r⟩ := Classical.choose_spec (ch i) d hl
    exact r.dom a ha
  · rw [(h i d hl).1] at ht; cases ht
  · rw [hio] at hi; cases hi
theorem look_start : ∀ {ds : List D} {n i : Nat}, look (ds.map some ++ List.replicate n none) i = ds[i]?
  | [], 0, i => by simp [look]
  | [], n + 1, 0 => by simp [look, List.replicate_succ]
  | [], n + 1, i + 1 => by
    have := look_start (ds := []) (n := n) (i := i)
    simpa [look, List.replicate_succ] using this
  | d :: ds, n, 0 => by simp [look]
  | d :: ds, n, i + 1 => by
    have := look_start (ds := ds) (n := n) (i := i)
    simpa [look] using this
theorem start_get {N : List Str} {vs : List V} {i : Nat} {v : V} (h : vs[i]? = some v) : (L2.start N vs)[i]? = some (some v) := by
  have hi := (List.getElem?_eq_some_iff.mp h).1
  unfold L2.start
  rw [List.getElem?_append_left (by simpa using hi), List.getElem?_map, h]
  rfl
section
variable {P : Program} {w : World} {K : PySem.W.Frag} {mg : Str → Option Value} {base : Heap} {x qual : Str} {st : Stmt} {f : Addr} {fd : FuncData} {N ps : List Str} {k : Nat} {T : Tg} {ww : WS}
noncomputable def env0 (N : List Str) (ds : List D) : Env := ds.map some ++ List.replicate (N.length - ds.length) none
theorem fn_ro {g : GA} (F : Fun K x qual st f fd) (S : FnScope N ps (defScope st)) (hio : T.io = []) (hown : ∀ i, i < ps.length → T.own i = false) (hg : ∀ ds kk, g ds kk → ds.length = ps.length)
    (hb : ∀ (cdv : Value) (A : Around) (outer : List PySem.Env) (s : Shared) (H : Hp) (E : XK), Room k (A.deeper (envOfC qual (defScope st) s.heap.objs.size f cdv)) → SVs (cxOf CX0 P w K mg base N qual (defScope st) f cdv A outer s H E).nox T (defBody st) ww)
    (hr : ∀ ds kk, g ds kk → ww { nx := fun _ => kk .non, rt := fun d _ => kk d } (env0 N ds)) : FnOk P w K mg base CX0 (k + 1) f fd ps (spR K g) := by
  refine F.ok S (fun vs H Q E h => ?_) (fun cdv A outer s H vs Q E hroom h => ?_)
  · obtain ⟨ds, Fp, kk, rep, hgk, _⟩ := h
    rw [rep.length]; exact hg ds kk hgk
  · obtain ⟨ds, Fp, kk, rep, hgk, q⟩ := h
    obtain ⟨ts, pts, gts⟩ := hb cdv A outer s H E hroom
    have hl := rep.length
    have hds := hg ds kk hgk
    refine ⟨ts, pts, gts (fun _ => .non) (Any H) (L2.start N vs) H (fun _ => False) (env0 N ds) _ _ (SR.readonly hio ?_ fun i d hli => ?_) (hr ds kk hgk) ⟨?_, ?_, ?_, ?_, fun _ _ _ _ _ _ _ _ hk => hk.elim⟩⟩
    · unfold env0 L2.start; simp [hl]
    · unfold env0 at hli
      rw [look_start] at hli
      obtain ⟨v, B, h1, h2, _⟩ := rep.get hli
      exact ⟨hown i (by rw [← hds]; exact (List.getElem?_eq_some_iff.mp hli).1), v, B, start_get h1, h2⟩
    · intro R' σ' H' W' ρ' s' fr hk
      have sm : Same H H' := fun b o e => fr.keep b o e (fun z => z)
      exact q .non H' .non [] ⟨sm, .non, List.nodup_nil, fun _ m => nomatch m⟩ hk
    · exact fun R' σ' H' W' ρ' s' fr hk => hk.elim
    · exact fun R' σ' H' W' ρ' s' fr hk => hk.elim
    · intro R' v σ' H' W' ρ' d F' s' fr r nd nw hk
      have sm : Same H H' := fun b o e => fr.keep b o e (fun z => z)
      exact q v H' d F' ⟨sm, r, nd, fun a ha => (nw a ha).2.resolve_left id⟩ hk
end
section
variable {X : Cx} {T : Tg} {m o m0 m1 m2 m3 o1 o2 : Bool} {e a b : Expr} {w wa wb we : WE} {pos p2 p : Pos} {es : List Expr} {wr : WA} {x : Str} {wt : WT}
end
end PV
set_option Elab.async false
set_option linter.all false
set_option maxRecDepth 100000
set_option maxHeartbeats 4000000
namespace PV
open PySem PySem.Spec L2
section
variable {X : Cx} {T : Tg} {m o m0 m1 m2 m3 o1 o2 : Bool} {e a b : Expr} {w wa wb we : WE} {pos p2 p : Pos} {es : List Expr} {wr : WA} {x : Str} {wt : WT}
noncomputable abbrev WO := Env → (Option Int → Env → Prop) → Prop
noncomputable def OV (X : Cx) (T : Tg) (m : Bool) (e : Option Expr) (w : WO) : Prop :=
  ∃ t, PO X e t ∧ ∀ (z : Nat → V) (R : Addr → Prop) (σ : St) (H : Hp) (W : Addr → Prop) (ρ : Env) (Q : Option Int → Env → Prop) (Q' : Option Int → Hp → Prop), SR X.K T z R H W σ ρ → w ρ Q →
    (∀ b H' W' ρ', PostT X.K T z R m H W σ ρ H' W' ρ' → Q b ρ' → Q' b H') → t σ H Q'
noncomputable def wNone : WO := fun ρ Q => Q none ρ
noncomputable def wSome (w : WE) : WO := fun ρ Q => w ρ fun d ρ' => match d with
  | .int i => Q (some i) ρ'
  | _ => False
theorem ov_none : OV X T false none wNone := ⟨_, po_none, fun z R σ H W ρ Q Q' s hw k => k none H W ρ ⟨s, FrW.refl H W, fun _ => ⟨Same.refl H, rfl, rfl⟩⟩ hw⟩
theorem ov_some (h : EV X T m o e w) : OV X T m (some e) (wSome w) := by
  obtain ⟨t, pt, g⟩ := h
  refine ⟨_, po_some pt, fun z R σ H W ρ Q Q' s hw k => g z R σ H W ρ _ _ s hw fun v H1 W1 d ρ1 F p q => ?_⟩
  cases d with
  | int i => exact ⟨i, rep_int p.rep, k (some i) H1 W1 ρ1 ⟨p.sr, p.fr, p.calm⟩ q⟩
  | _ => exact q.elim
noncomputable def cutD (xs : List D) (lo hi : Option Int) : List D := (xs.drop (HT.sIx xs.length 0 lo)).take (HT.sIx xs.length xs.length hi - HT.sIx xs.length 0 lo)
theorem Reps.cut {K : PySem.W.Frag} {H : Hp} {ds : List D} {xs : List V} {lo hi : Option Int} (r : Reps K H ds xs []) : Reps K H (cutD ds lo hi) (cutV xs lo hi) [] := by
  unfold cutD cutV
  rw [r.length]
  obtain ⟨G, r1, s1⟩ := r.drop (HT.sIx ds.length 0 lo)
  obtain ⟨G', r2, s2⟩ := r1.take (HT.sIx ds.length ds.length hi - HT.sIx ds.length 0 lo)
  have := List.sublist_nil.mp s1
  subst this
  have := List.sublist_nil.mp s2
  subst this
  exact r2
theorem sl_any : SlR X (fun x lo hi H Q => rSlL X.K x lo hi H Q ∨ rSlT X.K x lo hi H Q) := SlR.or sl_list sl_tup
theorem RepK.get {K : PySem.W.Frag} {H : Hp} : ∀ {ds : List (Key × D)} {xs : List (Key × V)} {F : List Addr} {i : Nat} {k : Key} {v : V}, RepK K H ds xs F → xs[i]? = some (k, v) → ∃ d B, ds[i]? = some (k, d) ∧ Rep K H d v B ∧ B.Sublist F
  | [], _, _, _, _, _, r, h => by cases r; simp at h
  | d :: ds, _, _, i, _, _, r, h => by
    cases r with
    | @cons j d v _ vs F G p r =>
      cases i with
      | zero =>
        simp at h
        obtain ⟨rfl, rfl⟩ := h
        exact ⟨d, F, rfl, p, List.sublist_append_left _ _⟩
      | succ i =>
        obtain ⟨d', B, h1, h2, h3⟩ := RepK.get r (i := i) (by simpa using h)
        exact ⟨d', B, by simpa using h1, h2, h3.trans (List.sublist_append_right _ _)⟩
end
end PV
set_option Elab.async false
set_option linter.all false
set_option maxRecDepth 100000
set_option maxHeartbeats 4000000
namespace PV
open PySem PySem.Spec L2
section
variable {κ : Type} [DecidableEq κ]
end
section
variable {K : PySem.W.Frag} {H : Hp}
end
section
variable {X : Cx} {T : Tg} {m o m0 m1 m2 m3 o1 o2 : Bool} {e a b : Expr} {w wa wb we : WE} {pos p2 p : Pos} {es : List Expr} {wr : WA} {x : Str} {wt : WT}
noncomputable def keyOf : D → Option Key
  | .int i => some (.inl i)
  | .str i => some (.inr i)
  | _ => none
theorem Rep.key {K : PySem.W.Frag} {H : Hp} {d : D} {v : V} {F : List Addr} {k : Key} (r : Rep K H d v F) (h : keyOf d = some k) : v = kV k := by
  cases r <;> simp [keyOf] at h <;> subst h <;> rfl
end
end PV
set_option Elab.async false
set_option linter.all false
set_option maxRecDepth 100000
set_option maxHeartbeats 4000000
namespace PV
open PySem PySem.Spec L2
section
variable {X : Cx} {T : Tg} {m o m0 m1 m2 m3 o1 o2 : Bool} {e a b : Expr} {w wa wb we : WE} {pos p2 p : Pos} {es : List Expr} {wr : WA} {x : Str} {wt : WT}
noncomputable abbrev tupI (k : List Int) : D := .tup (k.map .int)
theorem Reps.tups {K : PySem.W.Frag} {H : Hp} : ∀ {keys : List (List Int)} {ys : List V} {F : List Addr}, Reps K H (keys.map tupI) ys F → F = [] ∧ ∃ as : List Addr, ys = as.map V.ref ∧ as.length = keys.length ∧ ∀ (i : Nat) k, keys[i]? = some k → ∃ a, as[i]? = some a ∧ H a = some (.tup (k.map V.int))
  | [], _, _, r => by cases r; exact ⟨rfl, [], rfl, rfl, fun i k h => by simp at h⟩
  | k :: keys, _, _, r => by
    cases r with
    | cons p r =>
      obtain ⟨hF, as, h1, h2, h3⟩ := Reps.tups r
      cases p with
      | @tup a xs _ F e q =>
        obtain ⟨h4, h5⟩ := q.of_ints
        subst h4 h5 h1
        refine ⟨by rw [hF]; rfl, a :: as, rfl, by simp [h2], fun i k' hk => ?_⟩
        cases i with
        | zero => simp at hk; subst hk; exact ⟨a, rfl, e⟩
        | succ i => simpa using h3 i k' (by simpa using hk)
noncomputable def wAndV (wa wb : WE) : WE := fun ρ Q => wa ρ fun d ρ1 => match d with
  | .bl c => if c = true then wb ρ1 Q else Q (.bl false) ρ1
  | _ => False
noncomputable def wOrV (wa wb : WE) : WE := fun ρ Q => wa ρ fun d ρ1 => match d with
  | .bl c => if c = true then Q (.bl true) ρ1 else wb ρ1 Q
  | _ => False
variable {rest : List Expr}
theorem Post.after {K : PySem.W.Frag} {z : Nat → V} {R : Addr → Prop} {H H1 H2 : Hp} {W W1 W2 : Addr → Prop} {σ : St} {ρ ρ1 ρ2 : Env} {d1 d2 : D} {v1 v2 : V} {F1 F2 : List Addr} (p : Post K T z R m1 o1 H W σ ρ H1 W1 ρ1 d1 v1 F1) (q : Post K T z R m2 o2 H1 W1 σ ρ1 H2 W2 ρ2 d2 v2 F2) :
    Post K T z R (m1 || m2) o2 H W σ ρ H2 W2 ρ2 d2 v2 F2 := ⟨q.sr, p.fr.trans q.fr, p.calm2 q, q.rep, p.lastOwn q⟩
theorem ev_one {op} (h : EV X T m o a w) : EV X T m o (.BoolOp op [a] pos) w := by
  obtain ⟨t, pt, g⟩ := h
  exact ⟨t, pe_one pt, g⟩
theorem ev_and (ha : EV X T m1 o1 a wa) (hb : EV X T m2 true (.BoolOp .And (b :: rest) pos) wb) : EV X T (m1 || m2) true (.BoolOp .And (a :: b :: rest) pos) (wAndV wa wb) := by
  obtain ⟨ta, pa, ga⟩ := ha
  obtain ⟨tb, pb, gb⟩ := hb
  refine ⟨_, pe_and pa pb, fun z R σ H W ρ Q Q' s hw k => ga z R σ H W ρ _ _ s hw fun v H1 W1 d ρ1 F p q => ?_⟩
  cases d with
  | bl c =>
    refine ⟨c, rep_bl p.rep, ?_⟩
    cases c with
    | true => exact gb z R σ H1 W1 ρ1 Q Q' p.sr q fun v2 H2 W2 d2 ρ2 F2 q2 hq => k v2 H2 W2 d2 ρ2 F2 (p.after q2) hq
    | false => exact k _ H1 W1 (.bl false) ρ1 [] ⟨p.sr, p.fr, fun h => p.calm (Bool.or_eq_false_iff.mp h).1, .bl false, fun _ => ⟨List.nodup_nil, fun a m => nomatch m⟩⟩ q
  | _ => exact q.elim
theorem ev_or (ha : EV X T m1 o1 a wa) (hb : EV X T m2 true (.BoolOp .Or (b :: rest) pos) wb) : EV X T (m1 || m2) true (.BoolOp .Or (a :: b :: rest) pos) (wOrV wa wb) := by
  obtain ⟨ta, pa, ga⟩ := ha
  obtain ⟨tb, pb, gb⟩ := hb
  refine ⟨_, pe_or pa pb, fun z R σ H W ρ Q Q' s hw k => ga z R σ H W ρ _ _ s hw fun v H1 W1 d ρ1 F p q => ?_⟩
  cases d with
  | bl c =>
    refine ⟨c, rep_bl p.rep, ?_⟩
    cases c with
    | false => exact gb z R σ H1 W1 ρ1 Q Q' p.sr q fun v2 H2 W2 d2 ρ2 F2 q2 hq => k v2 H2 W2 d2 ρ2 F2 (p.after q2) hq
    | true => exact k _ H1 W1 (.bl true) ρ1 [] ⟨p.sr, p.fr, fun h => p.calm (Bool.or_eq_false_iff.mp h).1, .bl true, fun _ => ⟨List.nodup_nil, fun a m => nomatch m⟩⟩ q
  | _ => exact q.elim
noncomputable def wNotV (wa : WE) : WE := fun ρ Q => wa ρ fun d ρ1 => match d with
  | .bl c => Q (.bl (!c)) ρ1
  | _ => False
theorem ev_not (ha : EV X T m o a wa) : EV X T m true (.UnaryOp .Not a pos) (wNotV wa) := by
  obtain ⟨ta, pa, ga⟩ := ha
  refine ⟨_, pe_not pa, fun z R σ H W ρ Q Q' s hw k => ga z R σ H W ρ _ _ s hw fun v H1 W1 d ρ1 F p q => ?_⟩
  cases d with
  | bl c => exact ⟨c, rep_bl p.rep, k _ H1 W1 (.bl (!c)) ρ1 [] (Post.flat p.sr p.fr p.calm (.bl _)) q⟩
  | _ => exact q.elim
end
end PV
set_option Elab.async false
set_option linter.all false
set_option maxRecDepth 100000
set_option maxHeartbeats 4000000
namespace PV
open PySem PySem.Spec L2
theorem bt_isinstance : bootBuiltins "isinstance" = some (.builtin "isinstance") := by decide +kernel
theorem bt_abs : bootBuiltins "abs" = some (.builtin "abs") := by decide +kernel
theorem bt_len : bootBuiltins "len" = some (.builtin "len") := by decide +kernel
theorem bt_max : bootBuiltins "max" = some (.builtin "max") := by decide +kernel
theorem bt_int : bootBuiltins "int" = some (.type "int") := by decide +kernel
theorem bt_bool : bootBuiltins "bool" = some (.type "bool") := by decide +kernel
theorem bt_list : bootBuiltins "list" = some (.type "list") := by decide +kernel
theorem bt_tuple : bootBuiltins "tuple" = some (.type "tuple") := by decide +kernel
noncomputable def wLift (w : WE) : WE := fun ρ Q => w ρ fun d ρ' => d.pure = true ∧ Q d ρ'
noncomputable def Cal (P : Program) (w : World) (K : PySem.W.Frag) (mg : Str → Option Value) (base : Heap) (x : Str) (k : Nat) (ps : List Str) (sp : Sp) : Prop :=
  ∃ f fd, FnOk P w K mg base CX0 k f fd ps sp ∧ mg x = some (.ref f) ∧ PySem.W.keepIn K (.ref f) = true ∧ Binds K fd ps []
section
variable {X : Cx} {T : Tg} {m o m0 m1 m2 m3 o1 o2 : Bool} {e a b : Expr} {w wa wb we : WE} {pos p2 p : Pos} {es : List Expr} {wr : WA} {x : Str} {wt : WT} {k j : Nat} {ps : List Str}
theorem ev_lift (h : EV X T m o e w) : EV X T m true e (wLift w) := h.lift
theorem ev_callC {g : GA} (C : Cal X.prog X.w X.K X.mg X.base x k ps (spR X.K g)) (hr : Room k X.A) (ha : AV X T m o (e :: es) wr) (hg : Gl X x := by rfl)
    (hdb : (x == ("__debug__" : Str)) = false := by decide) (he : starEach (e :: es) X.env = (false, eval e X.env) :: starEach es X.env := by rfl) (hpl : (backTo pos (starEach es X.env)).any (·.1) = false := by rfl) :
    EV X T m true (.Call (.Name x p) (e :: es) [] pos) (wCall g wr) := by
  obtain ⟨f, fd, F, h1, h2, h3⟩ := C
  exact ev_call F hr h1 h2 h3 ha hg hdb he hpl
noncomputable def nonD : D → Bool
  | .non => true
  | _ => false
noncomputable def nonB (b : D) (k : Prop) : Prop := match b with
  | .non => k
  | _ => False
noncomputable def dIs (neg : Bool) : G2 := fun a b k => nonB b (k (.bl (xor (nonD a) neg)))
theorem od_is : OpD X (compareOp .Is) (dIs false) := by
  refine ⟨_, op_isN, fun H a b x y F1 F2 k Q ra rb g q => ?_⟩
  cases rb <;> first | (exact (show False from g).elim) | (refine ⟨rfl, ?_⟩; cases ra <;> exact q _ _ _ _ (.flat (.bl _)) g)
end
end PV
set_option Elab.async false
set_option linter.all false
set_option maxRecDepth 100000
set_option maxHeartbeats 4000000
namespace PV
open PySem PySem.Spec L2
section
variable {X : Cx} {T : Tg} {m o m0 m1 m2 m3 o1 o2 : Bool} {e a b : Expr} {w wa wb we : WE} {pos p2 p : Pos} {es : List Expr} {wr : WA} {x y : Str} {wt : WT} {ws : WS}
end
end PV
set_option Elab.async false
set_option linter.all false
set_option maxRecDepth 100000
set_option maxHeartbeats 4000000
namespace PV
open PySem PySem.Spec L2
section
variable {X : Cx} {T : Tg} {m o m0 m1 m2 m3 o1 o2 : Bool} {e a b : Expr} {w wa wb we : WE} {pos p2 p : Pos} {es : List Expr} {wr : WA} {x y : Str} {wt : WT} {ws : WS}
end
end PV
set_option Elab.async false
set_option linter.all false
set_option maxRecDepth 100000
set_option maxHeartbeats 4000000
namespace PV
open PySem PySem.Spec L2
open PySem.W (Dat kqdP kqdPs kqdOk)
section
variable {X : Cx}
end
end PV
set_option Elab.async false
set_option linter.all false
set_option maxRecDepth 100000
set_option maxHeartbeats 4000000
namespace PV
open PySem PySem.Spec L2
section
variable {X : Cx} {T : Tg} {m o m0 m1 m2 m3 o1 o2 : Bool} {e a b : Expr} {w wa wb we : WE} {pos p2 p : Pos} {es : List Expr} {wr : WA} {x y : Str} {wt : WT} {ws : WS}
noncomputable def dAddT : G2
  | .int i, .int j, k => k (.int (i + j))
  | .str x, .str y, k => x.length + y.length ≤ sizeLine ∧ k (.str (x ++ y))
  | .tup xs, .tup ys, k => pureL xs = true ∧ pureL ys = true ∧ xs.length + ys.length ≤ sizeLine ∧ k (.tup (xs ++ ys))
  | .lst xs, .lst ys, k => pureL xs = true ∧ pureL ys = true ∧ xs.length + ys.length ≤ sizeLine ∧ k (.lst (xs ++ ys))
  | _, _, _ => False
theorem addT_inv {a b : D} {k : D → Prop} (g : dAddT a b k) : (∃ i j, a = .int i ∧ b = .int j) ∨ (∃ i j, a = .str i ∧ b = .str j) ∨ (∃ i j, a = .lst i ∧ b = .lst j) ∨ ∃ i j, a = .tup i ∧ b = .tup j := by
  cases a with
  | int i => cases b with
    | int j => exact .inl ⟨i, j, rfl, rfl⟩
    | _ => exact (show False from g).elim
  | str i => cases b with
    | str j => exact .inr (.inl ⟨i, j, rfl, rfl⟩)
    | _ => exact (show False from g).elim
  | lst i => cases b with
    | lst j => exact .inr (.inr (.inl ⟨i, j, rfl, rfl⟩))
    | _ => exact (show False from g).elim
  | tup i => cases b with
    | tup j => exact .inr (.inr (.inr ⟨i, j, rfl, rfl⟩))
    | _ => cases i <;> exact (show False from g).elim
  | _ => exact (show False from g).elim
theorem od_addT : OpD X (binaryOp .Add) dAddT := by
  obtain ⟨r0, o0, g0⟩ := od_add (X := X)
  refine ⟨_, OpR.or op_cat0 o0, fun H a b x y F1 F2 k Q ra rb g q => ?_⟩
  rcases addT_inv g with ⟨i, j, rfl, rfl⟩ | ⟨i, j, rfl, rfl⟩ | ⟨i, j, rfl, rfl⟩ | ⟨i, ys, rfl, rfl⟩
  · exact .inr (g0 H _ _ x y F1 F2 k Q ra rb g q)
  · exact .inr (g0 H _ _ x y F1 F2 k Q ra rb g q)
  · exact .inr (g0 H _ _ x y F1 F2 k Q ra rb g q)
  · cases i with
    | nil =>
      cases ra with
      | @tup p _ _ _ e1 r1 =>
        cases r1
        cases rb with
        | @tup p' us _ _ e2 r2 => exact .inl ⟨p, p', us, rfl, rfl, .of e1, .of e2, q _ _ _ _ (.flat (.tup e2 (r2.pure g.2.1).2)) g.2.2.2⟩
    | cons d xs => exact .inr (g0 H _ _ x y F1 F2 k Q ra rb ⟨g.1, g.2.1, by simp, g.2.2⟩ q)
noncomputable def dSlT : D → Option Int → Option Int → (D → Prop) → Prop
  | .lst xs, lo, hi, k => pureL xs = true ∧ k (.lst (cutD xs lo hi))
  | .kls xs, lo, hi, k => pureL xs = true ∧ k (.lst (cutD xs lo hi))
  | .tup xs, lo, hi, k => pureL xs = true ∧ k (.tup (cutD xs lo hi))
  | _, _, _, _ => False
theorem slT_inv {d : D} {lo hi : Option Int} {k : D → Prop} (g : dSlT d lo hi k) : (∃ ds, d = .lst ds) ∨ (∃ ds, d = .kls ds) ∨ ∃ ds, d = .tup ds := by
  cases d with
  | lst ds => exact .inl ⟨ds, rfl⟩
  | kls ds => exact .inr (.inl ⟨ds, rfl⟩)
  | tup ds => exact .inr (.inr ⟨ds, rfl⟩)
  | _ => exact (show False from g).elim
theorem sl_anyT : SlR X (fun x lo hi H Q => (rSlL X.K x lo hi H Q ∨ rSlT X.K x lo hi H Q) ∨ rSlW X.K x lo hi H Q) := SlR.or sl_any sl_tupW
noncomputable def wSlT (w : WE) (wl wh : WO) : WE := fun ρ Q => w ρ fun d ρ1 => wl ρ1 fun lo ρ2 => wh ρ2 fun hi ρ3 => dSlT d lo hi fun d' => Q d' ρ3
theorem cut_whole {xs : List D} {lo hi : Option Int} (h : HT.sIx xs.length 0 lo = 0 ∧ HT.sIx xs.length xs.length hi = xs.length) : cutD xs lo hi = xs := by
  unfold cutD
  rw [h.1, h.2]
  simp
theorem ev_slT {lo hi : Option Expr} {wl wh : WO} (he : EV X T m1 o1 e w) (hl : OV X T m2 lo wl) (hh : OV X T m3 hi wh) (hc : o1 = true ∨ (m2 || m3) = false := by first | exact .inl rfl | exact .inr rfl) :
    EV X T (m1 || (m2 || m3)) true (.Subscript e (.Slice lo hi none p2) pos) (wSlT w wl wh) := by
  obtain ⟨te, pe, ge⟩ := he
  obtain ⟨tl, pl, gl⟩ := hl
  obtain ⟨th, ph, gh⟩ := hh
  refine ⟨_, pe_slice sl_anyT pe pl ph, fun z R σ H W ρ Q Q' s hw k => ?_⟩
  refine ge z R σ H W ρ _ _ s hw fun v H1 W1 d ρ1 F p q => ?_
  refine gl z R σ H1 W1 ρ1 _ _ p.sr q fun lo H2 W2 ρ2 p2 q2 => ?_
  refine gh z R σ H2 W2 ρ2 _ _ p2.sr q2 fun hi H3 W3 ρ3 p3 q3 => ?_
  have pp := p2.seq p3
  have r3 : Rep X.K H3 d v F := by
    rcases hc with hc | hc
    · exact p.rep.keep pp.fr fun a h => ((p.own hc).2 a h).2
    · exact p.rep.same (pp.calm hc).1
  have fin : ∀ ad d' v' Fn, Fin X.K H3 ad d' v' Fn → Q d' ρ3 → Q' v' ad := fun H' d' v' F' fi hq => by
    refine k v' H' W3 d' ρ3 F' (Post.fin p3.sr (p.fr.trans pp.fr) (fun h => ?_) fi.same fi.rep fi.nd fi.new) hq
    rw [Bool.or_eq_false_iff] at h
    obtain ⟨a1, a2, a3⟩ := p.calm h.1
    obtain ⟨b1, b2, b3⟩ := pp.calm h.2
    exact ⟨a1.trans b1, b2.trans a2, b3.trans a3⟩
  have q4 : dSlT d lo hi fun d' => Q d' ρ3 := q3
  clear q3
  rcases slT_inv q4 with ⟨ds, rfl⟩ | ⟨ds, rfl⟩ | ⟨ds, rfl⟩
  · have q3 := q4
    cases r3 with
    | @lst a xs _ F e1 r9 =>
      obtain ⟨hp, hq⟩ := q3
      obtain ⟨_, r9⟩ := r9.pure hp
      exact .inl (.inl ⟨a, xs, rfl, .of e1, fun l hl => fin _ _ _ [l] ⟨same_upd hl, .lst upd_same (r9.cut.same (same_upd hl)), by simp, fun b m => by rw [List.mem_singleton.mp m]; exact hl⟩ hq⟩)
  · have q3 := q4
    cases r3 with
    | @kls a xs _ e1 r9 =>
      obtain ⟨hp, hq⟩ := q3
      exact .inl (.inl ⟨a, xs, rfl, e1.sq, fun l hl => fin _ _ _ [l] ⟨same_upd hl, .lst upd_same (r9.cut.same (same_upd hl)), by simp, fun b m => by rw [List.mem_singleton.mp m]; exact hl⟩ hq⟩)
  · have q3 := q4
    cases r3 with
    | @tup a xs _ F e1 r9 =>
      obtain ⟨hp, hq⟩ := q3
      obtain ⟨_, r9⟩ := r9.pure hp
      by_cases hn : HT.sIx ds.length 0 lo = 0 ∧ HT.sIx ds.length ds.length hi = ds.length
      · rw [cut_whole hn] at hq
        exact .inr ⟨a, xs, rfl, .of e1, by rw [r9.length]; exact hn, fin _ _ _ [] (.flat (.tup e1 r9)) hq⟩
      · exact .inl (.inr ⟨a, xs, rfl, .of e1, by rw [r9.length]; exact hn, fun l hl => fin _ _ _ [] ⟨same_upd hl, .tup upd_same (r9.cut.same (same_upd hl)), by simp, fun b m => nomatch m⟩ hq⟩)
end
end PV
set_option Elab.async false
set_option linter.all false
set_option maxRecDepth 100000
set_option maxHeartbeats 4000000
namespace PV
open PySem PySem.Spec L2
section
variable {κ : Type} [DecidableEq κ]
end
section
variable {K : PySem.W.Frag} {H : Hp}
end
section
variable {X : Cx} {T : Tg} {m o m0 m1 m2 m3 o1 o2 : Bool} {e a b : Expr} {w wa wb we : WE} {pos p2 p : Pos} {es : List Expr} {wr : WA} {x y : Str} {wt : WT} {ws : WS}
end
end PV
set_option Elab.async false
set_option linter.all false
set_option maxRecDepth 100000
set_option maxHeartbeats 4000000
namespace PV
open PySem PySem.Spec L2
section
variable {X : Cx} {T : Tg} {m o m0 m1 m2 m3 o1 o2 : Bool} {e a b : Expr} {w wa wb we : WE} {pos p2 p : Pos} {es : List Expr} {wr : WA} {x y : Str} {wt : WT} {ws : WS}
end
end PV
set_option Elab.async false
set_option linter.all false
set_option maxRecDepth 100000
set_option maxHeartbeats 4000000
namespace PV
open PySem PySem.Spec L2
section
variable {X : Cx} {T : Tg} {m o m0 m1 m2 m3 o1 o2 : Bool} {e a b : Expr} {w wa wb we : WE} {pos p2 p : Pos} {es : List Expr} {wr : WA} {x y : Str} {wt : WT} {ws : WS}
end
end PV
set_option Elab.async false
set_option linter.all false
set_option maxRecDepth 100000
set_option maxHeartbeats 4000000
namespace PV
open PySem PySem.Spec L2
section
variable {X : Cx} {T : Tg} {m o m0 m1 m2 m3 o1 o2 : Bool} {e a b : Expr} {w wa wb we : WE} {pos p2 p : Pos} {es : List Expr} {wr : WA} {x y : Str} {wt : WT} {ws : WS}
end
end PV
set_option Elab.async false
set_option linter.all false
set_option maxRecDepth 100000
set_option maxHeartbeats 4000000
namespace PV
open PySem PySem.Spec L2
section
variable {X : Cx} {T : Tg} {m o : Bool}
end
end PV
set_option Elab.async false
set_option linter.all false
set_option maxRecDepth 100000
set_option maxHeartbeats 4000000
namespace PV
open PySem PySem.Spec L2
section
variable {X : Cx} {T : Tg} {m o m0 m1 m2 m3 o1 o2 : Bool} {e a b : Expr} {w wa wb we : WE} {pos p2 p : Pos} {es : List Expr} {wr : WA} {x y : Str} {wt : WT} {ws : WS}
end
end PV
set_option Elab.async false
set_option linter.all false
set_option maxRecDepth 100000
set_option maxHeartbeats 4000000
namespace PV
open PySem PySem.Spec L2
section
variable {X : Cx} {T : Tg} {m o m0 m1 m2 m3 me o1 o2 : Bool} {e a b : Expr} {w wa wb we : WE} {pos p2 p : Pos} {es : List Expr} {wr : WA} {x y : Str} {wt : WT} {ws : WS}
end
end PV
set_option Elab.async false
set_option linter.all false
set_option maxRecDepth 100000
set_option maxHeartbeats 4000000
namespace PV
open PySem PySem.Spec L2
open PyProof.Rows (envOfC)
section
variable {X : Cx} {T : Tg} {m o m0 m1 m2 m3 o1 o2 : Bool} {e a b : Expr} {w wa wb we : WE} {pos p2 p : Pos} {es : List Expr} {wr : WA} {x y : Str} {wt : WT} {ws : WS} {k : Nat} {ps : List Str}
end
section
variable {K : PySem.W.Frag} {x : Str} {qual : Str} {st : Stmt} {f : Addr} {fd : FuncData} {N ps : List Str} {T : Tg} {P : Program} {w : World} {mg : Str → Option Value} {base : Heap} {k : Nat} {ww : WS}
end
end PV
set_option Elab.async false
set_option linter.all false
set_option maxRecDepth 100000
set_option maxHeartbeats 4000000
namespace L2
open PySem PySem.Spec PyProof.Rows
section
variable {X : Cx} {es : List Expr} {t : TA} {pos : Pos}
end
end L2
namespace PV
open PySem PySem.Spec L2
section
variable {X : Cx} {T : Tg} {m o m0 m1 m2 m3 me o1 o2 : Bool} {e a b : Expr} {w wa wb we : WE} {pos p2 p : Pos} {es : List Expr} {wr : WA} {x y : Str} {wt : WT} {ws : WS}
noncomputable def g2 (K : PySem.W.Frag) : TG := gTup K 2 (gCons (gName 0) (gCons (gName 1) gNil))
end
end PV
set_option Elab.async false
set_option linter.all false
set_option maxRecDepth 100000
set_option maxHeartbeats 4000000
namespace PV
open PySem PySem.Spec L2
open Builtin.Str (glued tooLong)
section
variable {X : Cx} {T : Tg} {m o m0 m1 m2 m3 me o1 o2 : Bool} {e a b : Expr} {w wa wb we : WE} {pos p2 p : Pos} {es : List Expr} {wr : WA} {x y : Str} {wt : WT} {ws : WS}
end
end PV
set_option Elab.async false
set_option linter.all false
set_option maxRecDepth 100000
set_option maxHeartbeats 4000000
namespace PV
open PySem PySem.Spec L2
open Builtin.Str (glued tooLong subAt)
section
variable {X : Cx} {T : Tg} {m o m0 m1 m2 m3 m4 me o1 o2 : Bool} {e a b : Expr} {w wa wb we : WE} {pos p2 p : Pos} {es : List Expr} {wr : WA} {x y : Str} {wt : WT} {ws : WS}
end
end PV
set_option Elab.async false
set_option linter.all false
set_option maxRecDepth 100000
set_option maxHeartbeats 4000000
namespace PV
open PySem PySem.Spec L2
section
variable {X : Cx} {T : Tg} {m o m0 m1 m2 m3 o1 o2 : Bool} {e a b : Expr} {w wa wb we : WE} {pos p2 p : Pos} {es : List Expr} {wr : WA} {x y : Str}
end
end PV
set_option Elab.async false
set_option linter.all false
set_option maxRecDepth 100000
set_option maxHeartbeats 4000000
namespace PV
open PySem PySem.Spec L2 PyProof.Rows
section
variable {X : Cx} {T : Tg} {m o m0 m1 m2 m3 me o1 o2 : Bool} {e a b c : Expr} {w wa wb we : WE} {pos p2 p : Pos} {es : List Expr} {wr : WA} {x y : Str} {wt : WT} {ws : WS} {k : Nat} {ps : List Str} {tg : Expr}
noncomputable def rPopT : V → List V → Hp → VK → Prop := fun x vs H Q => ∃ a b kvs k v, x = .ref a ∧ vs = [.ref b] ∧ H a = some (.dT kvs) ∧ H b = some (.tup (k.map kV)) ∧ valV kvs k = some v ∧ Q v (upd H a (.dT (dropK kvs k)))
theorem mt_popT (hu : X.A.units + 1 < cLine) : MtM X "dict.pop" rPopT := by
  intro pins s σ H x vs v us Q I rx rv h
  obtain ⟨a, b, kvs, k, y, rfl, rfl, hH, hb, hv, q⟩ := h
  cases rx
  obtain ⟨u, rfl, ru⟩ := Vals.one rv
  cases ru
  exact d_popT hu I hH hb hv fun w' s' I' rw' => ⟨y, _, I', rw', q⟩
noncomputable def gPopT : GM
  | .dit kvs, [.tup xs], k => oget (keysOf xs) fun ks => oget (valD kvs ks) fun d => d.pure = true ∧ k d (.dit (dropD kvs ks))
  | _, _, _ => False
theorem md_popT (hu : X.A.units + 1 < cLine) : MtD X "dict.pop" gPopT := by
  refine ⟨_, mt_popT hu, fun H d ds v xs F G k Q r nd rs ndG dis g q => ?_⟩
  cases d with
  | dit es =>
    cases ds with
    | nil => exact (show False from g).elim
    | cons d ds =>
      cases ds with
      | cons _ _ => cases d <;> exact (show False from g).elim
      | nil =>
        cases d with
        | tup ys =>
          obtain ⟨u, rfl, rd⟩ := rs.at1
          obtain ⟨ks, hks, g⟩ := oget_some g
          obtain ⟨d, hd, hp, g⟩ := oget_some g
          cases r with
          | @dit l kvs _ F e r9 =>
            cases rd with
            | @tup b us _ _ eb rb =>
              have hkv := rb.keys hks
              rcases r9.val ks with ⟨q1, _⟩ | ⟨d', v', B, q1, q2, q3, q4⟩
              · rw [q1] at hd; cases hd
              · rw [q1] at hd
                cases hd
                obtain ⟨hB, q3⟩ := q3.pure hp
                obtain ⟨nl, nd⟩ := List.nodup_cons.mp nd
                obtain ⟨G', rG, sG⟩ := r9.drop (k := ks)
                have nG : l ∉ G' := fun h => nl (sG.subset h)
                refine ⟨l, b, kvs, ks, v', rfl, rfl, e, by rw [← hkv]; exact eb, q2, ?_⟩
                refine q v' l _ d _ (l :: G') List.mem_cons_self rfl (.dit upd_same (rG.upd e rfl nG)) (List.nodup_cons.mpr ⟨nG, nd.sublist sG⟩) (fun a ha => ?_) (q3.upd e rfl (fun h => nomatch h)) g
                rcases List.mem_cons.mp ha with rfl | ha
                · exact .inl List.mem_cons_self
                · exact .inl (List.mem_cons_of_mem _ (sG.subset ha))
        | _ => exact (show False from g).elim
  | _ => exact (show False from g).elim
theorem iv_par {i : Nat} (ht : T.own i = false := by rfl) (hN : X.N[i]? = some x := by rfl) (hv : Vis X.env.scope x := by first | exact Or.inl rfl | exact Or.inr (Or.inl rfl) | exact Or.inr (Or.inr rfl)) (hd : (x == ("__debug__" : Str)) = false := by decide)
    (hcd : (x == ("__classdict__" : Str)) = false := by decide) : IV X T false true tg (.Name x p) (wSeqD (wVar i)) := by
  refine ⟨_, pi_seq (pe_var hN hv hd hcd), fun z R σ H W ρ Q RR s hw k => ?_⟩
  unfold wSeqD wVar at hw
  cases hl : look ρ i with
  | none => rw [hl] at hw; exact hw.elim
  | some d =>
  rw [hl] at hw
  have q := hw
  obtain ⟨fp, s0⟩ := id s
  obtain ⟨v, h1, r0⟩ := s0.at_ i d hl
  have nW : ∀ b ∈ fp i, ¬ W b := fun b hb hw => s0.wr b hw (s0.ro i d hl ht b hb)
  refine ⟨v, h1, ?_⟩
  cases d with
  | tup ds =>
    obtain ⟨hp, q⟩ := q
    obtain ⟨hF, rp⟩ := r0.pure (by simpa [D.pure] using hp)
    cases rp with
    | @tup a xs _ _ e1 r =>
      refine ⟨a, rfl, .inr ⟨⟨xs, .of e1⟩, k _ H W ds ρ ⟨s, FrW.refl H W, fun _ => ⟨Same.refl H, rfl, rfl⟩⟩ (fun i H2 W2 f => ?_) q⟩⟩
      have e2 : H2 a = some (.tup xs) := f.imm _ _ e1 rfl
      refine ⟨fun hi => ⟨xs, .of e2, by rw [r.length]; exact hi⟩, fun d hd => ?_⟩
      obtain ⟨x, B, hx, rx, sx⟩ := r.get hd
      refine ⟨⟨xs, x, .of e2, hx⟩, fun v H3 y => ?_⟩
      obtain ⟨rfl, y⟩ := y
      have := y xs (.of e2)
      rw [hx] at this
      cases this
      exact ⟨Same.refl _, B, rx.keep f (fun a ha => (nomatch sx.subset ha)), (fun a ha => (nomatch sx.subset ha))⟩
  | lst ds =>
    generalize hfp : fp i = G at r0 nW
    cases r0 with
    | @lst a xs _ F e1 r =>
      refine ⟨a, rfl, .inl ⟨⟨xs, .of e1⟩, k _ H W ds ρ ⟨s, FrW.refl H W, fun _ => ⟨Same.refl H, rfl, rfl⟩⟩ (fun i H2 W2 f => ?_) q⟩⟩
      rw [wz_true] at f
      have e2 : H2 a = some (.lst xs) := f.keep _ _ e1 (nW a List.mem_cons_self)
      refine ⟨fun hi => ⟨xs, .of e2, by rw [r.length]; exact hi⟩, fun d hd => ?_⟩
      obtain ⟨x, B, hx, rx, sx⟩ := r.get hd
      refine ⟨⟨xs, x, .of e2, hx⟩, fun v H3 y => ?_⟩
      obtain ⟨rfl, y⟩ := y
      have := y xs (.of e2)
      rw [hx] at this
      cases this
      refine ⟨Same.refl _, B, rx.keep f fun b hb => nW b (List.mem_cons_of_mem _ (sx.subset hb)), fun b hb hw => ?_⟩
      have hb' : b ∈ a :: F := List.mem_cons_of_mem _ (sx.subset hb)
      rcases f.new b hw with h | h
      · exact nW b hb' h
      · obtain ⟨ob, e3, _⟩ := rx.dom b hb
        rw [h] at e3; cases e3
  | _ => exact (show False from q).elim
end
section
variable {i j : Int} {k : D → Prop} {kk : D → D → Prop} {kvs : List (List Key × D)} {xs : List D}
theorem sz0 : (0 ≤ sizeLine) = True := propext ⟨fun _ => trivial, fun _ => by decide⟩
theorem sz1 : (1 ≤ sizeLine) = True := propext ⟨fun _ => trivial, fun _ => by decide⟩
theorem sz2 : (2 ≤ sizeLine) = True := propext ⟨fun _ => trivial, fun _ => by decide⟩
theorem sz3 : (3 ≤ sizeLine) = True := propext ⟨fun _ => trivial, fun _ => by decide⟩
end
end PV
set_option Elab.async false
set_option linter.all false
set_option maxRecDepth 100000
set_option maxHeartbeats 4000000
namespace L2
open PySem PySem.Spec PyProof.Rows
section
variable {X : Cx} {e : Expr} {te : TE}
noncomputable def tFrz (te : TE) : TE := fun σ H Q => te σ H fun v H1 => ∃ a xs, v = .ref a ∧ H1 a = some (.lst xs) ∧ ∀ o, Q v (upd H1 a (.frz o (.lst xs)))
theorem pe_frz (he : PE X e te) : PE X e (tFrz te) := by
  intro pins s σ H Q I h
  refine thn (he pins s σ H _ I h) fun v s1 ⟨x, H1, I1, r1, q⟩ => ?_
  obtain ⟨a, xs, rfl, ha, q⟩ := q
  obtain ⟨z, its, n, rv, hob⟩ := (show ObjOk X.prog X.w H1 s1.heap a (.lst xs) from I1.hok a _ ha)
  exact ⟨.ref a, _, I1.write (x := a) (e := a) (o := .frz _ (.lst xs)) (t' := s1.toks) (by rw [ha]; trivial) (.inl rfl) (fun b u _ q => q) ⟨_, hob⟩ (show ObjOk X.prog X.w _ s1.heap a (.frz _ (.lst xs)) from ⟨hob, z, its, n, rv, hob⟩), r1, q _⟩
end
end L2
namespace PV
open PySem PySem.Spec L2 PyProof.Rows
section
variable {X : Cx} {T : Tg} {m o : Bool} {e : Expr} {w : WE} {tg : Expr}
noncomputable def frzOf (d : D) (k : D → Prop) : Prop := match d with
  | .lst xs => pureL xs = true ∧ k (.fls xs)
  | _ => False
noncomputable def wFrz (w : WE) : WE := fun ρ Q => w ρ fun d ρ' => frzOf d fun d' => Q d' ρ'
theorem ev_frz (h : EV X T m true e w) : EV X T m true e (wFrz w) := by
  obtain ⟨te, pe, ge⟩ := h
  refine ⟨_, pe_frz pe, fun z R σ H W ρ Q Q' s hw k => ?_⟩
  refine ge z R σ H W ρ _ _ s hw fun v H1 W1 d ρ1 F p q => ?_
  cases d with
  | lst xs =>
    obtain ⟨hp, q⟩ := q
    obtain ⟨sr, fr, calm, rep, own⟩ := p
    obtain ⟨nd, own⟩ := own rfl
    cases rep with
    | @lst a ys _ G e1 r =>
      obtain ⟨hG, r⟩ := r.pure hp
      subst hG
      obtain ⟨ha, hW⟩ := own a List.mem_cons_self
      have hR : ¬ R a := s.nr ha
      refine ⟨a, ys, rfl, e1, fun ob => ?_⟩
      have im : ImmK H1 (upd H1 a (.frz ob (.lst ys))) := imm_upd e1 rfl
      have ne : ∀ {b : Addr} {u : HO}, H b = some u → b ≠ a := fun {b u} hb z => by rw [z, ha] at hb; cases hb
      have sr' : SR X.K T z R (upd H1 a (.frz ob (.lst ys))) W1 σ ρ1 := by
        obtain ⟨fp, s0⟩ := sr
        have off : ∀ i d, look ρ1 i = some d → ∀ b ∈ fp i, b ≠ a := fun i d hl b hb hz => by
          subst hz
          cases ht : T.own i with
          | true => exact hW ((s0.own i d hl ht).2 b hb)
          | false => exact hR (s0.ro i d hl ht b hb)
        refine ⟨fp, s0.len, fun b hb => ?_, fun i d hl => ?_, s0.own, s0.ro, s0.wr, fun b hb => ?_, s0.dis, s0.fix⟩
        · obtain ⟨u, h1, h2⟩ := s0.wd b hb
          exact ⟨u, by rw [upd_ne (show b ≠ a from fun hz => hW (by rw [← hz]; exact hb))]; exact h1, h2⟩
        · obtain ⟨v, h1, h2⟩ := s0.at_ i d hl
          exact ⟨v, h1, h2.frame im fun b hb => upd_ne (off i d hl b hb)⟩
        · obtain ⟨u, h1, h2⟩ := s0.rd b hb
          exact ⟨u, by rw [upd_ne (show b ≠ a from fun hz => hR (by rw [← hz]; exact hb))]; exact h1, h2⟩
      have fr' : FrW H W (upd H1 a (.frz ob (.lst ys))) W1 := by
        refine ⟨fun b u hb hn => ?_, fun b hb => ?_, fun b u hb hi => ?_, fr.new⟩
        · rw [upd_ne (ne hb)]; exact fr.keep b u hb hn
        · by_cases hz : b = a
          · rw [hz]; exact ha
          · rw [upd_ne hz] at hb; exact fr.dom b hb
        · rw [upd_ne (ne hb)]; exact fr.imm b u hb hi
      refine k _ _ W1 (.fls xs) ρ1 [] ⟨sr', fr', fun hm => ?_, .fls upd_same (r.frame im fun b hb => nomatch hb), fun _ => ⟨List.nodup_nil, fun b hb => nomatch hb⟩⟩ q
      obtain ⟨c1, c2, c3⟩ := calm hm
      exact ⟨fun b u hb => by rw [upd_ne (ne hb)]; exact c1 b u hb, c2, c3⟩
  | _ => exact (show False from q).elim
noncomputable def flsOf (d : D) (k : List D → Prop) : Prop := match d with
  | .fls ds => k ds
  | _ => False
noncomputable def wSeqF (w : WE) : WL := fun ρ Q => w ρ fun d ρ' => flsOf d fun ds => Q ds ρ'
theorem iv_fls (h : EV X T m o e w) : IV X T m true tg e (wSeqF w) := by
  obtain ⟨te, pe, ge⟩ := h
  refine ⟨_, pi_seq pe, fun z R σ H W ρ Q RR s hw k => ?_⟩
  refine ge z R σ H W ρ _ _ s hw fun v H1 W1 d ρ1 F p q => ?_
  cases d with
  | fls ds =>
    obtain ⟨p1, p2, p3, p4, p5⟩ := p
    cases p4 with
    | @fls a ob xs _ e1 r =>
      have fz : FzL X.K H1 a xs := .inl ⟨ob, e1⟩
      refine ⟨a, rfl, .inl ⟨⟨xs, fz.sq⟩, k _ H1 W1 ds ρ1 ⟨p1, p2, p3⟩ (fun i H2 W2 f => ?_) q⟩⟩
      have e2 := f.imm.fzL fz
      refine ⟨fun hi => ⟨xs, e2.sq, by rw [r.length]; exact hi⟩, fun d hd => ?_⟩
      obtain ⟨x, B, hx, rx, sx⟩ := r.get hd
      refine ⟨⟨xs, x, e2.sq, hx⟩, fun v H3 y => ?_⟩
      obtain ⟨rfl, y⟩ := y
      have := y xs e2.sq
      rw [hx] at this
      cases this
      exact ⟨Same.refl _, B, rx.keep f (fun a ha => (nomatch sx.subset ha)), (fun a ha => (nomatch sx.subset ha))⟩
  | _ => exact (show False from q).elim
theorem r9_frz {xs : List D} {k : D → Prop} : frzOf (.lst xs) k = (pureL xs = true ∧ k (.fls xs)) := rfl
theorem r9_fls {xs : List D} {k : List D → Prop} : flsOf (.fls xs) k = k xs := rfl
end
end PV
set_option Elab.async false
set_option linter.all false
set_option maxRecDepth 100000
set_option maxHeartbeats 4000000
namespace PV
open PySem PySem.Spec L2
open PyProof.Rows (envOfC)
section
variable {X : Cx} {T : Tg} {m : Bool} {w : WE} {pos : Pos} {x : Str}
end
end PV
set_option Elab.async false
set_option linter.all false
set_option maxRecDepth 100000
set_option maxHeartbeats 4000000
namespace PV
open PySem PySem.Spec L2
section
variable {X : Cx} {T : Tg} {m o m0 m1 m2 m3 o1 o2 : Bool} {e a b : Expr} {w wa wb we : WE} {pos p2 p : Pos} {es : List Expr} {wr : WA} {x y : Str} {wt : WT} {ws : WS}
theorem RepT.get {K : PySem.W.Frag} {H : Hp} : ∀ {ds : List (List Key × D)} {xs : List (List Key × V)} {F : List Addr} {i : Nat} {k : List Key} {v : V}, RepT K H ds xs F → xs[i]? = some (k, v) → ∃ d B, ds[i]? = some (k, d) ∧ Rep K H d v B ∧ B.Sublist F
  | [], _, _, _, _, _, r, h => by cases r; simp at h
  | d :: ds, _, _, i, _, _, r, h => by
    cases r with
    | @cons j d v _ vs F G p r =>
      cases i with
      | zero =>
        simp at h
        obtain ⟨rfl, rfl⟩ := h
        exact ⟨d, F, rfl, p, List.sublist_append_left _ _⟩
      | succ i =>
        obtain ⟨d', B, h1, h2, h3⟩ := RepT.get r (i := i) (by simpa using h)
        exact ⟨d', B, by simpa using h1, h2, h3.trans (List.sublist_append_right _ _)⟩
end
end PV
set_option Elab.async false
set_option linter.all false
set_option maxRecDepth 100000
set_option maxHeartbeats 4000000
namespace PV
open PySem PySem.Spec L2
section
variable {X : Cx} {T : Tg} {m o : Bool} {a : Expr} {pos p2 p : Pos} {wr : WA} {x : Str}
end
end PV
set_option Elab.async false
set_option linter.all false
set_option maxRecDepth 100000
set_option maxHeartbeats 4000000
namespace PV
open PySem PySem.Spec L2
theorem atI_ofNat {α : Type} (xs : List α) (j : Nat) : L2.atI xs (j : Int) = xs[j]? := by
  unfold L2.atI ixN
  rw [if_pos (by omega)]
  by_cases h : j < xs.length
  · rw [if_pos (by omega)]; simp
  · rw [if_neg (by omega)]; simp; omega
theorem atI_0 {α : Type} (xs : List α) : L2.atI xs 0 = xs[0]? := atI_ofNat xs 0
theorem atI_1 {α : Type} (xs : List α) : L2.atI xs 1 = xs[1]? := atI_ofNat xs 1
theorem ixN_ofNat {n j : Nat} (h : j < n) : ixN n (j : Int) = some j := by
  unfold ixN
  rw [if_pos (by omega), if_pos (by omega)]; simp
theorem ixN_0 {n : Nat} (h : 0 < n) : ixN n 0 = some 0 := ixN_ofNat h
theorem oget_s {α : Type} {d : α} {k : α → Prop} : oget (some d) k = k d := rfl
theorem r_var {i : Nat} {ρ : Env} {Q : D → Env → Prop} : wVar i ρ Q = oget (look ρ i) fun d => Q d ρ := by
  unfold wVar oget
  cases look ρ i <;> rfl
section
variable {i j : Int} {x y : Str} {xs ys : List D} {k : D → Prop} {b c : Bool} {d e : D} {kvs : List (Key × D)} {kts : List (List Key × D)}
theorem r_sub : dSub (.int i) (.int j) k = k (.int (i - j)) := rfl
theorem r_mul : dMul (.int i) (.int j) k = (CMul i j ∧ k (.int (i * j))) := rfl
theorem r_div : dDiv (.int i) (.int j) k = ((0 < j ∧ j < 1073741824 ∧ k (.int (i / j))) ∨ (j < 0 ∧ j.natAbs < 1073741824 ∧ k (.int (i.fdiv j)))) := rfl
theorem r_mod : dMod (.int i) (.int j) k = ((0 < j ∧ k (.int (i % j))) ∨ (j < 0 ∧ k (.int (i.fmod j)))) := rfl
theorem r_pow : dPow (.int i) (.int j) k = (CPow i j ∧ k (.int (i ^ j.toNat))) := rfl
theorem r_neg : dNeg (.int i) k = k (.int (-i)) := rfl
theorem r_eqI : dEq (.int i) (.int j) k = k (.bl (decide (i = j))) := rfl
theorem r_neI : dNe (.int i) (.int j) k = k (.bl (!decide (i = j))) := rfl
theorem r_eqS : dEq (.str x) (.str y) k = k (.bl (decide (x = y))) := rfl
theorem r_eqT : dEq (.tup xs) d k = (eqOk 9 (.tup xs) = true ∧ eqOk 9 d = true ∧ (.tup xs = d → k (.bl true)) ∧ (.tup xs ≠ d → k (.bl false))) := by cases d <;> rfl
theorem r_neT : dNe (.tup xs) d k = (eqOk 9 (.tup xs) = true ∧ eqOk 9 d = true ∧ (.tup xs = d → k (.bl false)) ∧ (.tup xs ≠ d → k (.bl true))) := by cases d <;> rfl
theorem r_eqL : dEq (.lst xs) d k = (eqOk 9 (.lst xs) = true ∧ eqOk 9 d = true ∧ (.lst xs = d → k (.bl true)) ∧ (.lst xs ≠ d → k (.bl false))) := by cases d <;> rfl
theorem r_neL : dNe (.lst xs) d k = (eqOk 9 (.lst xs) = true ∧ eqOk 9 d = true ∧ (.lst xs = d → k (.bl false)) ∧ (.lst xs ≠ d → k (.bl true))) := by cases d <;> rfl
theorem r_cmp {f : Int → Int → Bool} : dCmp f (.int i) (.int j) k = k (.bl (f i j)) := rfl
theorem r_ixL : dIx (.lst xs) (.int i) k = oget (L2.atI xs i) k := rfl
theorem r_ixT : dIx (.tup xs) (.int i) k = oget (L2.atI xs i) k := rfl
theorem r_ixK : dIx (.kls xs) (.int i) k = oget (L2.atI xs i) k := rfl
theorem r_lenL : dLen [.lst xs] k = k (.int xs.length) := rfl
theorem r_lenT : dLen [.tup xs] k = k (.int xs.length) := rfl
theorem r_lenK : dLen [.kls xs] k = k (.int xs.length) := rfl
theorem r_intB : dInt [.bl b] k = k (.int (if b then 1 else 0)) := rfl
theorem r_abs : dAbs [.int i] k = k (.int (if i < 0 then -i else i)) := rfl
theorem r_max : dMax2 [.int i, .int j] k = k (.int (if j > i then j else i)) := rfl
theorem r_listL : dList [.lst xs] k = (pureL xs = true ∧ k (.lst xs)) := rfl
theorem r_isi {t : Ty} : dIsi [d, .ty t] k = oget (isiD d t) fun b => k (.bl b) := rfl
theorem r_setL : dSet (.lst xs) (.int i) d k = oget (ixN xs.length i) fun n => k (.lst (xs.set n d)) := rfl
variable {kk : D → D → Prop}
theorem r_app : gAppend (.lst xs) [d] kk = (xs.length < sizeLine ∧ kk .non (.lst (xs ++ [d]))) := rfl
theorem r_popAt : gPopAt (.lst xs) [.int i] kk = (-(2 ^ 63) ≤ i ∧ i < 2 ^ 63 ∧ oget (seqIndex? i xs.length) fun j => oget xs[j]? fun d => d.pure = true ∧ kk d (.lst (xs.eraseIdx j))) := rfl
variable {ρ : Env} {w : WE} {QE : D → Env → Prop} {QL : List D → Env → Prop} {QB : Bool → Env → Prop}
end
section
variable {i j : Int} {k : D → Prop}
theorem r_divP (h : 0 < j) (h2 : j < 1073741824) : dDiv (.int i) (.int j) k = k (.int (i / j)) := by
  rw [r_div]
  apply propext
  exact ⟨fun q => q.elim (fun z => z.2.2) (fun z => absurd z.1 (by omega)), fun q => .inl ⟨h, h2, q⟩⟩
theorem r_modP (h : 0 < j) : dMod (.int i) (.int j) k = k (.int (i % j)) := by
  rw [r_mod]
  apply propext
  exact ⟨fun q => q.elim (fun z => z.2) (fun z => absurd z.1 (by omega)), fun q => .inl ⟨h, q⟩⟩
theorem r_mulA (h : -18446744073709551616 < i) (h2 : i < 18446744073709551616) : dMul (.int i) (.int j) k = k (.int (i * j)) := by
  rw [r_mul]
  exact propext ⟨fun q => q.2, fun q => ⟨.inl ⟨by omega, by omega⟩, q⟩⟩
theorem r_powP (h : 0 ≤ j) (h2 : j ≤ 1000000) (h3 : -18446744073709551616 < i) (h4 : i < 18446744073709551616) : dPow (.int i) (.int j) k = k (.int (i ^ j.toNat)) := by
  rw [r_pow]
  exact propext ⟨fun q => q.2, fun q => ⟨⟨h, h2, by omega⟩, q⟩⟩
end
noncomputable def blOf (d : D) (k : Bool → Prop) : Prop := match d with
  | .bl b => k b
  | _ => False
theorem r_bl {w : WE} {ρ : Env} {Q : Bool → Env → Prop} : wBl w ρ Q = w ρ fun d ρ' => blOf d fun b => Q b ρ' := by
  show (w ρ fun d ρ' => match d with | .bl b => Q b ρ' | _ => False) = _
  rfl
theorem r_blOf {b : Bool} {k : Bool → Prop} : blOf (.bl b) k = k b := rfl
noncomputable def truOf (d : D) (k : Bool → Prop) : Prop := oget (truD d) k
theorem r_tru {w : WE} {ρ : Env} {Q : Bool → Env → Prop} : wTru w ρ Q = w ρ fun d ρ' => truOf d fun b => Q b ρ' := by
  unfold wTru
  congr 1
  funext d ρ'
  unfold truOf oget
  cases truD d <;> rfl
theorem r_truB {b : Bool} {k : Bool → Prop} : truOf (.bl b) k = k b := rfl
noncomputable def seqOf (d : D) (k : List D → Prop) : Prop := match d with
  | .tup ds => pureL ds = true ∧ k ds
  | .lst ds => k ds
  | _ => False
theorem r_seq {w : WE} {ρ : Env} {Q : List D → Env → Prop} : wSeqD w ρ Q = w ρ fun d ρ' => seqOf d fun ds => Q ds ρ' := by
  show (w ρ fun d ρ' => match d with | .tup ds => pureL ds = true ∧ Q ds ρ' | .lst ds => Q ds ρ' | _ => False) = _
  rfl
theorem r_seqL {xs : List D} {k : List D → Prop} : seqOf (.lst xs) k = k xs := rfl
noncomputable def intOf (d : D) (k : Option Int → Prop) : Prop := match d with
  | .int i => k (some i)
  | _ => False
theorem r_some {w : WE} {ρ : Env} {Q : Option Int → Env → Prop} : wSome w ρ Q = w ρ fun d ρ' => intOf d fun i => Q i ρ' := by
  show (w ρ fun d ρ' => match d with | .int i => Q (some i) ρ' | _ => False) = _
  rfl
theorem r_intOf {i : Int} {k : Option Int → Prop} : intOf (.int i) k = k (some i) := rfl
theorem r_andV {wa wb : WE} {ρ : Env} {Q : D → Env → Prop} : wAndV wa wb ρ Q = wa ρ fun d ρ1 => blOf d fun c => if c = true then wb ρ1 Q else Q (.bl false) ρ1 := by
  show (wa ρ fun d ρ1 => match d with | .bl c => if c = true then wb ρ1 Q else Q (.bl false) ρ1 | _ => False) = _
  rfl
theorem r_orV {wa wb : WE} {ρ : Env} {Q : D → Env → Prop} : wOrV wa wb ρ Q = wa ρ fun d ρ1 => blOf d fun c => if c = true then Q (.bl true) ρ1 else wb ρ1 Q := by
  show (wa ρ fun d ρ1 => match d with | .bl c => if c = true then Q (.bl true) ρ1 else wb ρ1 Q | _ => False) = _
  rfl
theorem r_notV {wa : WE} {ρ : Env} {Q : D → Env → Prop} : wNotV wa ρ Q = wa ρ fun d ρ1 => blOf d fun c => Q (.bl (!c)) ρ1 := by
  show (wa ρ fun d ρ1 => match d with | .bl c => Q (.bl (!c)) ρ1 | _ => False) = _
  rfl
theorem r_tyL {xs : List D} {t : String} : tyD (some (.lst xs)) t = (t == "list") := rfl
theorem pureL_map {α : Type} {f : α → D} {l : List α} (h : ∀ a ∈ l, (f a).pure = true) : pureL (l.map f) = true := by
  rw [pureL_iff]
  intro x hx
  obtain ⟨a, ha, rfl⟩ := List.mem_map.mp hx
  exact h a ha
theorem eqOks_map {α : Type} {f : α → D} {n : Nat} {l : List α} (h : ∀ a ∈ l, eqOk n (f a) = true) : eqOks n (l.map f) = true := by
  rw [eqOks_iff]
  intro x hx
  obtain ⟨a, ha, rfl⟩ := List.mem_map.mp hx
  exact h a ha
noncomputable def forI (ds : List D) (wg : WG) (wb : WS) (P : EndsP) (ρ1 : Env) : Prop := ∃ I : Nat → Env → Prop, I 0 ρ1 ∧
  (∀ i d ρ, ds[i]? = some d → I i ρ → wg d ρ fun ρ' => wb { P with nx := I (i + 1), ct := I (i + 1), bk := P.nx } ρ') ∧ ∀ ρ, I ds.length ρ → P.nx ρ
theorem r_for {wl : WL} {wg : WG} {wb : WS} {P : EndsP} {ρ : Env} : wFor wl wg wb P ρ = wl ρ fun ds ρ1 => pureL ds = true ∧ forI ds wg wb P ρ1 := rfl
end PV
set_option Elab.async false
set_option linter.all false
set_option maxRecDepth 100000
set_option maxHeartbeats 4000000
namespace PV
open PySem PySem.Spec L2
section
variable {X : Cx} {T : Tg} {m o o1 o2 o3 : Bool} {a b c : Expr} {wa wb wc : WE} {pos p2 p : Pos} {wr : WA} {x : Str}
end
end PV
set_option Elab.async false
set_option linter.all false
set_option maxRecDepth 100000
set_option maxHeartbeats 4000000
namespace PV
open PySem PySem.Spec L2
open PyProof.Rows (envOfC)
noncomputable abbrev GX := List D → (D → Prop) → (D → Prop) → Prop
noncomputable abbrev atN (K : PySem.W.Frag) (x : Str) (C : Addr) : Prop := PySem.W.nsIn K mainGlobals x = some (some (.ref C))
noncomputable def spX (K : PySem.W.Frag) (g : GX) : Sp := fun vs H Q E => ∃ (ds : List D) (F : List Addr) (k kx : D → Prop), Reps K H ds vs F ∧ g ds k kx ∧ (∀ v H' d F', Fin K H H' d v F' → k d → Q v H') ∧ ∀ x C H', atN K x C → Same H H' → kx (.obj x []) → E (.ref C) none H'
noncomputable def RaiseOk (X : Cx) (T : Tg) (x : Str) (C : Addr) : Prop := ∀ pins σ H s h1 e vs, Inv X pins σ H s → Heap.MadeExcOf s.heap h1 e (.ref C) vs → T.xe (.obj x []) σ H → X.xe (.ref e) { s with heap := h1 }
noncomputable def EndsP.un (P : EndsP) (j : Nat) : EndsP := { nx := fun ρ => P.nx (ρ.set j none), rt := P.rt, bk := fun ρ => P.bk (ρ.set j none), ct := fun ρ => P.ct (ρ.set j none) }
section
variable {X : Cx} {T : Tg} {m o o1 o2 o3 : Bool} {e a b c e₀ : Expr} {es : List Expr} {w wa wb wc : WE} {pos p2 p np cpos hpos px : Pos} {wr : WA} {x y : Str} {ws wh : WS}
noncomputable def wRaise (x : Str) (wr : WA) : WS := fun P ρ => wr ρ fun ds ρ' => ds.length ≤ 1000 ∧ P.xc (.obj x []) ρ'
theorem sv_raise {C : Addr} (k : ExcK X.K X.mg x C) (hX : RaiseOk X T x C) (ha : AV X T m o (e₀ :: es) wr) (hg : Gl X x := by rfl) (hc : X.calm = true := by rfl)
    (hdb : (x == ("__debug__" : Str)) = false := by decide) (he : starEach (e₀ :: es) X.env = (false, eval e₀ X.env) :: starEach es X.env := by rfl) (hpl : (backTo cpos (starEach es X.env)).any (·.1) = false := by rfl) :
    SV X T (.Raise (some (.Call (.Name x np) (e₀ :: es) [] cpos)) none pos) (wRaise x wr) := by
  obtain ⟨ta, pa, ga⟩ := ha
  refine ⟨_, ps_raise (Ξ := fun σ H => T.xe (.obj x []) σ H) k hg hc pa hX hdb he hpl, fun z R σ H W ρ P E s hw l => ?_⟩
  refine ga z R σ H W ρ _ _ s hw fun vs H1 W1 ds ρ1 F p q => ⟨?_, l.xc R σ H1 W1 ρ1 _ p.sr p.fr q.2⟩
  rw [p.rep.length]
  exact Nat.le_trans q.1 (by decide)
theorem SR.unset {K : PySem.W.Frag} {z : Nat → V} {R : Addr → Prop} {H : Hp} {W : Addr → Prop} {σ : St} {ρ : Env} {j : Nat} (hj : j ∉ T.io) (s : SR K T z R H W σ ρ) : SR K T z R H W (σ.set j none) (ρ.set j none) := by
  obtain ⟨fp, s⟩ := s
  have key : ∀ i d, look (ρ.set j none) i = some d → i ≠ j ∧ look ρ i = some d := fun i d h => by
    rw [look_set] at h
    split at h
    · cases h
    · rename_i hn
      refine ⟨fun z => hn ⟨z, ?_⟩, h⟩
      rw [← z]; exact look_lt h
  refine ⟨fp, by rw [List.length_set, List.length_set]; exact s.len, s.wd, fun i d h => ?_, fun i d h => s.own i d (key i d h).2, fun i d h => s.ro i d (key i d h).2, s.wr, s.rd, fun i k d d' h h' => s.dis i k d d' (key i d h).2 (key k d' h').2, fun i hi => ?_⟩
  · obtain ⟨h1, h2⟩ := key i d h
    obtain ⟨v, e1, e2⟩ := s.at_ i d h2
    exact ⟨v, by rw [List.getElem?_set_ne (Ne.symm h1)]; exact e1, e2⟩
  · rw [List.getElem?_set_ne (fun z => hj (by rw [z]; exact hi))]
    exact s.fix i hi
noncomputable def CalX (P : Program) (w : World) (K : PySem.W.Frag) (mg : Str → Option Value) (base : Heap) (x : Str) (k : Nat) (ps : List Str) (sp : Sp) : Prop :=
  ∃ f fd, FnOk P w K mg base (CXE P w base) k f fd ps sp ∧ mg x = some (.ref f) ∧ PySem.W.keepIn K (.ref f) = true ∧ Binds K fd ps []
noncomputable def calmG (g : GX) : GA := fun ds k => g ds k fun _ => False
theorem CalX.calm {P : Program} {w : World} {K : PySem.W.Frag} {mg : Str → Option Value} {base : Heap} {k : Nat} {ps : List Str} {g : GX} (C : CalX P w K mg base x k ps (spX K g)) : Cal P w K mg base x k ps (spR K (calmG g)) := by
  obtain ⟨f, fd, F, h1, h2, h3⟩ := C
  have up : ∀ vs H Q E, spR K (calmG g) vs H Q E → spX K g vs H Q fun _ _ _ => False := fun vs H Q E ⟨ds, Fp, kk, r, hg, q⟩ => ⟨ds, Fp, kk, fun _ => False, r, hg, q, fun _ _ _ _ _ z => z⟩
  refine ⟨f, fd, ⟨fun vs H Q E h => F.len vs H Q _ (up vs H Q E h), fun A outer s H args us vs Q E hr e0 hb hv h => codeAny_mono (F.run A outer s H args us vs Q _ hr e0 hb hv (up vs H Q E h)) fun r s' q => ?_⟩, h1, h2, h3⟩
  cases r with
  | ok fl => cases fl <;> exact q
  | error e => obtain ⟨_, _, _, _, _, _, _, z⟩ := q; exact z.elim
noncomputable def wTrySet (i : Nat) (g : GX) (wr : WA) (cat : Str → Bool) (j : Nat) (wh : WS) : WS := fun P ρ => wr ρ fun ds ρ' => g ds (fun d => P.nx (ρ'.set i (some d))) fun d => match d with
  | .obj x [] => cat x = true ∧ wh (P.un j) (ρ'.set j (some (.obj x [])))
  | _ => False
theorem sv_trySet {i j k : Nat} {f cx n : Str} {ps : List Str} {g : GX} {cat : Str → Bool} {C0 : Addr} {b₀ : Stmt} {suite : List Stmt} (C : CalX X.prog X.w X.K X.mg X.base f k ps (spX X.K g)) (hr : Room k X.A) (hp : X.Plain) (ha : AV X.nox T false o (e₀ :: es) wr) (hcx : X.mg cx = some (.ref C0))
    (hcat : ∀ x C, cat x = true → atN X.K x C → PySem.W.exmOne X.K (.ref C) (.ref C0) = some true) (hh : ∀ ea, SVs (X.han ea) T (b₀ :: suite) wh) (hN : X.N.Nodup)
    (hi : X.N[i]? = some y := by rfl) (hj : X.N[j]? = some n := by rfl) (hio : i ∉ T.io := by decide) (hjo : j ∉ T.io := by decide) (hg : Gl X f := by rfl) (hgc : Gl X cx := by rfl) (hy : Loc X.env.scope y := by first | exact Or.inl rfl | exact Or.inr rfl)
    (hl : X.env.kindOf n = some .local := by rfl) (hlo : X.env.scope.names.lookup n = some .local := by rfl) (hs : swapsWith (.Call (.Name f p) (e₀ :: es) [] cpos) (some (.Name y px)) p2.line X.env = pure false := by rfl)
    (hf : X.fn y = true ∨ X.env.scope.names.lookup y = some .local := by first | exact .inl rfl | exact .inr rfl | assumption) (hdb : (f == ("__debug__" : Str)) = false := by decide) (hdc : (cx == ("__debug__" : Str)) = false := by decide)
    (he : starEach (e₀ :: es) X.env = (false, eval e₀ X.env) :: starEach es X.env := by rfl) (hpl : (backTo cpos (starEach es X.env)).any (·.1) = false := by rfl) :
    SV X T (.Try [.Assign [.Name y px] (.Call (.Name f p) (e₀ :: es) [] cpos) p2] [.ExceptHandler (some (.Name cx np)) (some n) (b₀ :: suite) hpos] [] [] pos) (wTrySet i g wr cat j wh) := by
  obtain ⟨fa, fd, F, h1, h2, h3⟩ := C
  obtain ⟨ta, pa, ga⟩ := ha
  have hh' : ∃ th : TS, (∀ ea, PSs (X.han ea) (b₀ :: suite) th) ∧ ∀ (z : Nat → V) (R : Addr → Prop) (σ : St) (H : Hp) (W : Addr → Prop) (ρ : Env) (P : EndsP) (E : Ends), SR X.K T z R H W σ ρ → wh P ρ → Lk X.K T z H W P E → th E σ H := by
    refine ⟨fun E σ H => ∃ (z : Nat → V) (R : Addr → Prop) (W : Addr → Prop) (ρ : Env) (P : EndsP), SR X.K T z R H W σ ρ ∧ wh P ρ ∧ Lk X.K T z H W P E, fun ea => ?_, fun z R σ H W ρ P E s hw l => ⟨z, R, W, ρ, P, s, hw, l⟩⟩
    obtain ⟨t1, p1, g1⟩ := hh ea
    intro pins s σ H D I ⟨z, R, W, ρ, P, s0, hw, l⟩
    exact p1 pins s σ H D I (g1 z R σ H W ρ P D s0 hw l)
  obtain ⟨th, ph, gh⟩ := hh'
  refine ⟨_, ps_try (C0 := C0) hp (tries_set F hr hg h1 h2 h3 pa hN hi hy hs hf hdb he hpl) hcx hgc hN hj hl hlo ph hdc, fun z R σ H W ρ P E s hw l => ?_⟩
  refine ga z R σ H W ρ _ _ s hw fun vs H1 W1 ds ρ1 Fp p q => ?_
  obtain ⟨sm0, hW, hρ⟩ := p.calm rfl
  refine ⟨ds, Fp, _, _, p.rep, q, fun v H' d F' fi hk => ?_, fun x C H' hn sm hk => ?_⟩
  · obtain ⟨fp, s1⟩ := p.sr.same fi.same
    obtain ⟨fp0, s00⟩ := id p.sr
    have nW : ∀ a ∈ F', ¬ W1 a := fun a ha hw => by
      obtain ⟨ob, e1, _⟩ := s00.wd a hw
      rw [fi.new a ha] at e1
      cases e1
    obtain ⟨R', s2⟩ := s1.bind (i := i) hio fi.rep fi.nd (fun a ha => ⟨nW a ha, p.sr.nr (fi.new a ha)⟩)
    refine l.nx R' _ H' _ _ s2 (frw_more (p.fr.trans (FrW.same W1 fi.same)) fun a h => ?_) hk
    cases q0 : H a with
    | none => rfl
    | some ob =>
      have := fi.new a h.2
      rw [sm0 a ob q0] at this
      cases this
  · obtain ⟨hc1, hk⟩ := hk
    refine ⟨C, rfl, hcat x C hc1 hn, fun ea ob φ hcl hne => ?_⟩
    have smu : Same H' (upd H' ea (.frz ob (.ext φ))) := same_upd hne
    obtain ⟨fp, s1⟩ := (p.sr.same sm).same smu
    have rep : Rep X.K (upd H' ea (.frz ob (.ext φ))) (.obj x []) (.ref ea) [] := .obj upd_same ⟨C, hcl, hn⟩ (.inl rfl)
    obtain ⟨R', s2⟩ := s1.bind (i := j) hjo rep (by simp) (fun a ha => nomatch ha)
    have fr0 : FrW H W (upd H' ea (.frz ob (.ext φ))) (fun a => W1 a ∨ (T.own j = true ∧ a ∈ ([] : List Addr))) := frw_more ((p.fr.trans (FrW.same W1 sm)).trans (FrW.same W1 smu)) fun a h => nomatch h.2
    have l2 := l.step fr0
    refine gh z R' _ _ _ _ (P.un j) _ s2 hk ⟨fun R σ' H' W' ρ' s' f' h => ?_, fun R σ' H' W' ρ' s' f' h => ?_, fun R σ' H' W' ρ' s' f' h => ?_, l2.rt, fun R σ' H' W' ρ' d s' f' h => h.elim⟩
    · exact l2.nx R _ H' W' _ (s'.unset hjo) f' h
    · exact l2.bk R _ H' W' _ (s'.unset hjo) f' h
    · exact l2.ct R _ H' W' _ (s'.unset hjo) f' h
end
end PV
set_option Elab.async false
set_option linter.all false
set_option maxRecDepth 100000
set_option maxHeartbeats 4000000
namespace PV
open PySem PySem.Spec L2
open PyProof.Rows (envOfC)
section
variable {P : Program} {w : World} {K : PySem.W.Frag} {mg : Str → Option Value} {base : Heap} {x qual : Str} {st : Stmt} {f : Addr} {fd : FuncData} {N ps : List Str} {k : Nat} {T : Tg} {ww : WS}
theorem fn_x {g : GX} (F : Fun K x qual st f fd) (S : FnScope N ps (defScope st)) (hio : T.io = []) (hown : ∀ i, i < ps.length → T.own i = false) (hg : ∀ ds kk kx, g ds kk kx → ds.length = ps.length)
    (hb : ∀ (cdv : Value) (A : Around) (outer : List PySem.Env) (s : Shared) (H : Hp) (E : XK) (XE : D → St → Hp → Prop), Room k (A.deeper (envOfC qual (defScope st) s.heap.objs.size f cdv)) →
      (∀ x C, atN K x C → RaiseOk (cxOf (CXE P w base) P w K mg base N qual (defScope st) f cdv A outer s H E) ⟨T.own, T.io, XE⟩ x C) → SVs (cxOf (CXE P w base) P w K mg base N qual (defScope st) f cdv A outer s H E) ⟨T.own, T.io, XE⟩ (defBody st) ww)
    (hr : ∀ ds kk kx, g ds kk kx → ww { nx := fun _ => kk .non, rt := fun d _ => kk d, xc := fun d _ => kx d } (env0 N ds)) : FnOk P w K mg base (CXE P w base) (k + 1) f fd ps (spX K g) := by
  obtain ⟨oc, od, kV, doc, pm, an, cdv, ct, osl, rfl, lk, hcd⟩ := F.ex
  refine fn_of lk hcd S (fun vs H Q E h => ?_) fun A outer s H vs Q E hroom h => ?_
  · obtain ⟨ds, Fp, kk, kx, rep, hgk, _⟩ := h
    rw [rep.length]; exact hg ds kk kx hgk
  · obtain ⟨ds, Fp, kk, kx, rep, hgk, q, qx⟩ := h
    obtain ⟨ts, pts, gts⟩ := hb cdv A outer s H E (fun d _ H' => ∀ x C, atN K x C → d = .obj x [] → E (.ref C) none H') hroom (fun x C hn pins σ H1 s1 h1 e vs I hx hT =>
      leave_made (X := cxOf (CXE P w base) P w K mg base N qual (defScope st) f cdv A outer s H E) ⟨rfl, rfl, rfl⟩ I hx fun h' t B fl => ⟨e, C, t, B, H1, rfl, fl, hT x C hn rfl⟩)
    have hl := rep.length
    have hds := hg ds kk kx hgk
    refine ⟨ts, pts, gts (fun _ => .non) (Any H) (L2.start N vs) H (fun _ => False) (env0 N ds) _ _ (SR.readonly hio ?_ fun i d hli => ?_) (hr ds kk kx hgk) ⟨?_, ?_, ?_, ?_, ?_⟩⟩
    · unfold env0 L2.start; simp [hl]
    · unfold env0 at hli
      rw [look_start] at hli
      obtain ⟨v, B, h1, h2, _⟩ := rep.get hli
      exact ⟨hown i (by rw [← hds]; exact (List.getElem?_eq_some_iff.mp hli).1), v, B, start_get h1, h2⟩
    · intro R' σ' H' W' ρ' s' fr hk
      have sm : Same H H' := fun b o e => fr.keep b o e (fun z => z)
      exact q .non H' .non [] ⟨sm, .non, List.nodup_nil, fun _ m => nomatch m⟩ hk
    · exact fun R' σ' H' W' ρ' s' fr hk => hk.elim
    · exact fun R' σ' H' W' ρ' s' fr hk => hk.elim
    · intro R' v σ' H' W' ρ' d F' s' fr r nd nw hk
      have sm : Same H H' := fun b o e => fr.keep b o e (fun z => z)
      exact q v H' d F' ⟨sm, r, nd, fun a ha => (nw a ha).2.resolve_left id⟩ hk
    · intro R' σ' H' W' ρ' d s' fr hk x C hn e
      subst e
      exact qx x C H' hn (fun b o e => fr.keep b o e (fun z => z)) hk
noncomputable def strKeysB (es : Array DictEntry) : Bool := es.toList.all fun e => match e.key with
  | .str _ _ => true
  | _ => false
theorem strKeys_of {es : Array DictEntry} (h : strKeysB es = true) : StrKeys es := fun e he => by
  have := List.all_eq_true.mp h e (by simpa using he)
  split at this
  · rename_i n t q; exact ⟨n, t, q⟩
  · cases this
theorem ns_of {h : Heap} {a : Addr} {oc : Value} {od : Option Addr} {es : Array DictEntry} {ep : Nat} {sl : Array (Option Value)} (X : K.In h) (l : K.lookup a = some ⟨oc, od, .dict es ep, sl⟩) (s : strKeysB es = true) : h.Ns a (nsFind es) := ⟨_, es, ep, X _ _ l, rfl, strKeys_of s, fun _ => rfl⟩
theorem excK_mk {C TE N : Addr} {nm q : Str} {bs : List Value} {hdct : Bool} {sn : List Str} {sub : List Value} {ab : Bool} {col : Option Bool} {dd dd' od1 od2 : Option Addr} {k0 k1 k2 k3 k5 : Option Value} {c0 oc1 oc2 : Value} {cd : ClassData} {sl sl1 sl2 : Array (Option Value)} {es1 es2 : Array DictEntry} {ep1 ep2 : Nat}
    (hm : mg x = some (.ref C)) (l1 : K.lookup C = some (excClassObj nm q C N bs (.ref TE :: [.type "ValueError", .type "Exception", .type "BaseException", .type "object"]) hdct sn sub ab col dd k0 k1 k2 k3 k5 "ValueError.__new__")) (l2 : K.lookup TE = some ⟨c0, dd', .cls cd, sl⟩)
    (n1 : K.lookup N = some ⟨oc1, od1, .dict es1 ep1, sl1⟩) (n2 : K.lookup cd.ns = some ⟨oc2, od2, .dict es2 ep2, sl2⟩) (s1 : strKeysB es1 = true) (s2 : strKeysB es2 = true) (i1 : nsFind es1 "__init__" = none) (i2 : nsFind es2 "__init__" = none) : ExcK K mg x C :=
  ⟨hm, "ValueError", "ValueError.__new__", "ValueError.__init__", _, _, bs, nm, q, N, hdct, sn, sub, ab, col, dd, k0, k1, k2, k3, k5, nsFind es1, F.excBase_ValueError, rfl, i1, fun h X => ⟨X _ _ l1, ns_of X n1 s1, .own (X _ _ l2) (ns_of X n2 s2) i2 .base⟩⟩
theorem kit_same {C : Addr} : PySem.W.kitOne K (.ref C) (.ref C) = some true := by unfold PySem.W.kitOne; rw [if_pos (by simp)]
theorem kit_cls2 {C D : Addr} {cd : ClassData} {b : Bool} (hne : (Value.ref C == Value.ref D) = false) (h1 : PySem.W.clsIn K D = some cd) (h2 : PySem.W.typeIn K (.ref D) = some (.type "type")) (h3 : PySem.W.subIn K (.ref C) (.ref D) = some b) : PySem.W.kitOne K (.ref C) (.ref D) = some b := by
  unfold PySem.W.kitOne
  rw [if_neg (by rw [hne]; decide)]
  show (if ((PySem.W.clsIn K D).isSome && PySem.W.typeIn K (.ref D) == some (.type "type")) = true then PySem.W.subIn K (.ref C) (.ref D) else none) = some b
  rw [if_pos (by rw [h1, h2]; rfl)]
  exact h3
theorem kit_val {C : Addr} {b : Bool} (h3 : PySem.W.subIn K (.ref C) (.type "ValueError") = some b) : PySem.W.kitOne K (.ref C) (.type "ValueError") = some b := by
  unfold PySem.W.kitOne
  rw [if_neg (by intro z; cases (beq_iff_eq.mp z))]
  show (if PySem.W.kitMeta "ValueError" = true then PySem.W.subIn K (.ref C) (.type "ValueError") else none) = some b
  rw [if_pos (by decide +kernel)]
  exact h3
theorem exm_of {C D : Addr} {cd : ClassData} {b : Bool} (h0 : PySem.W.subIn K (.ref D) (.type "BaseException") = some true) (h1 : PySem.W.clsIn K D = some cd) (h2 : PySem.W.typeIn K (.ref D) = some (.type "type")) (h3 : PySem.W.subIn K (.ref C) (.ref D) = some b) : PySem.W.exmOne K (.ref C) (.ref D) = some b := by
  unfold PySem.W.exmOne
  rw [if_pos (by rw [h0]; rfl)]
  show (if ((PySem.W.clsIn K D).isSome && PySem.W.typeIn K (.ref D) == some (.type "type")) = true then PySem.W.subIn K (.ref C) (.ref D) else none) = some b
  rw [if_pos (by rw [h1, h2]; rfl)]
  exact h3
theorem kitAny_f {t c : Value} {cs : List Value} {b : Bool} (h1 : PySem.W.kitOne K t c = some false) (h2 : PySem.W.kitAny K t cs = some b) : PySem.W.kitAny K t (c :: cs) = some b := by
  unfold PySem.W.kitAny
  rw [h1]
  exact h2
theorem kitAny_0 {t : Value} : PySem.W.kitAny K t [] = some false := rfl
end
section
variable {X : Cx} {T : Tg} {o1 o2 o3 : Bool} {a b c : Expr} {es : List Expr} {wa wb wc : WE} {pos p2 p q : Pos} {wr : WA} {x y v : Str} {ta : TA} {cv : V} {cl : Value} {i : Nat} {m o : Bool}
noncomputable def wIsx (i : Nat) (tab : Str → Option Bool) : WE := fun ρ Q => oget (look ρ i) fun d => match d with
  | .obj x _ => oget (tab x) fun k => Q (.bl k) ρ
  | _ => False
theorem ev_isx {tab : Str → Option Bool} (hb : X.mg "isinstance" = none) (hy : PE X (.Name y q) (tC cv)) (hcv : clsV cv = some cl) (ht : ∀ x k C, tab x = some k → atN X.K x C → ExcQ X.K C ∧ PySem.W.kitOne X.K (.ref C) cl = some k)
    (hN : X.N[i]? = some v := by rfl) (hv : Vis X.env.scope v := by first | exact Or.inl rfl | exact Or.inr (Or.inl rfl) | exact Or.inr (Or.inr rfl)) (hg : Gl X "isinstance" := by rfl) (hd : (v == ("__debug__" : Str)) = false := by decide) (hcd : (v == ("__classdict__" : Str)) = false := by decide)
    (he : starEach [.Name v p2, .Name y q] X.env = (false, eval (.Name v p2) X.env) :: starEach [.Name y q] X.env := by rfl) (he2 : starEach [.Name y q] X.env = (false, eval (.Name y q) X.env) :: starEach [] X.env := by rfl) (hpl : (backTo pos (starEach [.Name y q] X.env)).any (·.1) = false := by rfl) :
    EV X T false true (.Call (.Name "isinstance" p) [.Name v p2, .Name y q] [] pos) (wIsx i tab) := by
  refine ⟨_, pe_callB (call_isx F.attrBase_ValueError) hg hb bt_isinstance (pa_cons (pe_var hN hv hd hcd) (pa_cons hy pa_nil he2) he) (by decide) (by decide) he hpl, fun z R σ H W ρ Q Q' s hw k => ?_⟩
  obtain ⟨d, hl, hq⟩ := oget_some hw
  obtain ⟨fp, s0⟩ := id s
  obtain ⟨u, h1, h2⟩ := s0.at_ i d hl
  generalize fp i = Fi at h2
  match d, h2, hq with
  | .obj x fs, h2, hq =>
    obtain ⟨r, hr, hq⟩ := oget_some hq
    cases h2 with
    | @obj a1 _ ob φ _ e1 hc hf =>
      obtain ⟨C, hc, hn⟩ := hc
      obtain ⟨q1, q2⟩ := ht x r C hr hn
      exact ⟨_, h1, a1, ob, φ, C, cv, cl, r, rfl, e1, hc, q1, hcv, q2, k (.bl r) H W (.bl r) ρ [] (Post.flat s (FrW.refl H W) (fun _ => ⟨Same.refl H, rfl, rfl⟩) (.bl r)) hq⟩
theorem ev_isxT {tab : Str → Option Bool} {vs : List V} {cs : List Value} {kx1} (hb : X.mg "isinstance" = none) (hy : PA X es ta) (hta : ∀ σ H Q, Q vs H → ta σ H Q) (hcs : vs.mapM clsV = some cs) (hvs : vs.length ≤ sizeLine) (ht : ∀ x k C, tab x = some k → atN X.K x C → ExcQ X.K C ∧ PySem.W.kitAny X.K (.ref C) cs = some k)
    (hN : X.N[i]? = some v := by rfl) (hv : Vis X.env.scope v := by first | exact Or.inl rfl | exact Or.inr (Or.inl rfl) | exact Or.inr (Or.inr rfl)) (hg : Gl X "isinstance" := by rfl) (hd : (v == ("__debug__" : Str)) = false := by decide) (hcd : (v == ("__classdict__" : Str)) = false := by decide)
    (he : starEach [.Name v p2, .Tuple es kx1 q] X.env = (false, eval (.Name v p2) X.env) :: starEach [.Tuple es kx1 q] X.env := by rfl) (he2 : starEach [.Tuple es kx1 q] X.env = (false, eval (.Tuple es kx1 q) X.env) :: starEach [] X.env := by rfl) (hpl : (backTo pos (starEach [.Tuple es kx1 q] X.env)).any (·.1) = false := by rfl) :
    EV X T false true (.Call (.Name "isinstance" p) [.Name v p2, .Tuple es kx1 q] [] pos) (wIsx i tab) := by
  refine ⟨_, pe_callB (call_isxT F.attrBase_ValueError) hg hb bt_isinstance (pa_cons (pe_var hN hv hd hcd) (pa_cons (pe_tup hy) pa_nil he2) he) (by decide) (by decide) he hpl, fun z R σ H W ρ Q Q' s hw k => ?_⟩
  obtain ⟨d, hl, hq⟩ := oget_some hw
  obtain ⟨fp, s0⟩ := id s
  obtain ⟨u, h1, h2⟩ := s0.at_ i d hl
  generalize fp i = Fi at h2
  match d, h2, hq with
  | .obj x fs, h2, hq =>
    obtain ⟨r, hr, hq⟩ := oget_some hq
    cases h2 with
    | @obj a1 _ ob φ _ e1 hc hf =>
      obtain ⟨C, hc, hn⟩ := hc
      obtain ⟨q1, q2⟩ := ht x r C hr hn
      refine ⟨_, h1, hta _ _ _ ⟨hvs, fun tp htp => ?_⟩⟩
      have sm : Same H (upd H tp (.tup vs)) := same_upd htp
      exact ⟨a1, ob, φ, C, tp, vs, cs, r, rfl, sm _ _ e1, hc, q1, upd_same, hcs, q2, k (.bl r) _ W (.bl r) ρ [] (Post.fin s (FrW.refl H W) (fun _ => ⟨Same.refl H, rfl, rfl⟩) sm (.bl r) (by simp) fun b m => nomatch m) hq⟩
noncomputable def wChainV (g g' : G2) (wa wb wc : WE) : WE := fun ρ Q => wa ρ fun x ρ1 => wb ρ1 fun y ρ2 => g x y fun d => blOf d fun k => if k = true then wc ρ2 fun u ρ3 => g' y u fun d' => Q d' ρ3 else Q (.bl false) ρ2
theorem ev_chain {op op' : CmpOp} {g g' : G2} (ho : OpD X (compareOp op) g) (ho' : OpD X (compareOp op') g') (ha : EV X T false o1 a wa) (hb : EV X T false o2 b wb) (hc : EV X T false o3 c wc)
    (hm : lastMarks [op, op'] [b, c] = false := by with_unfolding_all rfl) : EV X T false true (.Compare a [op, op'] [b, c] pos) (wChainV g g' wa wb wc) := by
  obtain ⟨r, ro, gr⟩ := ho
  obtain ⟨r', ro', gr'⟩ := ho'
  obtain ⟨ta, pa, ga⟩ := ha
  obtain ⟨tb, pb, gb⟩ := hb
  obtain ⟨tc, pc, gc⟩ := hc
  refine ⟨_, pe_chain ro ro' pa pb pc hm, fun z R σ H W ρ Q Q' s hw k => ?_⟩
  refine two ga gb (.inr rfl) s hw fun x y H2 W2 d1 d2 ρ2 F1 F2 s2 f2 c2 r1 r2 _ _ _ q2 => ?_
  refine gr H2 d1 d2 x y F1 F2 _ _ r1 r2 q2 fun v H3 d F fi hk => ?_
  have f3 := f2.trans (FrW.same W2 fi.same)
  cases d with
  | bl k0 =>
    refine ⟨k0, rep_bl fi.rep, ?_⟩
    have hk : (if k0 = true then wc ρ2 fun u ρ3 => g' d2 u fun d' => Q d' ρ3 else Q (.bl false) ρ2) := hk
    cases k0 with
    | false =>
      rw [if_neg Bool.false_ne_true] at hk ⊢
      exact k (.bl false) H3 W2 (.bl false) ρ2 [] (Post.fin s2 f2 c2 fi.same (.bl false) (by simp) fun b m => nomatch m) hk
    | true =>
      rw [if_pos rfl] at hk ⊢
      refine gc z R σ H3 W2 ρ2 _ _ (s2.same fi.same) hk fun u H4 W4 e ρ4 F' p q => ?_
      obtain ⟨a1, a2, a3⟩ := p.calm rfl
      exact gr' H4 d2 e y u F2 F' _ _ ((r2.same fi.same).same a1) p.rep q fun v5 H5 d5 F5 fi5 hk5 => k v5 H5 W4 d5 ρ4 F5 (Post.fin p.sr (f3.trans p.fr) (fun h => ⟨((c2 h).1.trans fi.same).trans a1, a2.trans (c2 h).2.1, a3.trans (c2 h).2.2⟩) fi5.same fi5.rep fi5.nd fi5.new) hk5
  | _ => exact hk.elim
end
end PV
set_option Elab.async false
set_option linter.all false
set_option maxRecDepth 100000
set_option maxHeartbeats 4000000
namespace L2
open PySem PySem.Spec PyProof.Rows
section
variable {X : Cx}
theorem pe_range2 {a b : Expr} {ta : TA} {p pos : Pos} (hg : Gl X "range") (hm : X.mg "range" = none) (ha : PA X [a, b] ta) (hs : starEach [a, b] X.env = (false, eval a X.env) :: starEach [b] X.env := by rfl) (hp : (backTo pos (starEach [b] X.env)).any (·.1) = false := by rfl) :
    PE X (.Call (.Name "range" p) [a, b] [] pos) (fun σ H Q => ta σ H fun vs H1 => ∃ i j : Int, vs = [.int i, .int j] ∧ ∀ r, H1 r = none → Q (.ref r) (upd H1 r (.rng i j))) := by
  intro pins s σ H Q I h
  refine Call_ (ld_blt I hg hm boot_range (PyProof.Rows.callWith_type1 (thn (ha pos pins s σ H _ I h) fun us s1 ⟨vs, H1, I1, r1, q1⟩ => ?_) hs hp))
  obtain ⟨i, j, e, q⟩ := q1
  subst e
  obtain ⟨u, v, rfl, ru, rv⟩ := vals2 r1
  obtain ⟨t, rfl⟩ := ru
  obtain ⟨t2, rfl⟩ := rv
  refine call_range_2 ?_
  refine ⟨.ref s1.heap.objs.size, _, I1.laid (o := .rng i j) (fun b u e => Heap.get?_push_of_some _ e) (Nat.le_refl _) ?_, rfl, q _ (I1.hok.fresh (Nat.le_refl _))⟩
  exact ⟨_, _, _, Heap.get?_push_size _ rfl⟩
theorem vals_rng {lo : Int} : ∀ (n : Nat) (l : List Value), l.length = n → (∀ (j : Nat) v, l[j]? = some v → ∃ t, v = .int (lo + (j : Int) * 1) t) → Vals ((List.range n).map fun (i : Nat) => V.int (lo + (i : Int))) l := by
  intro n
  induction n with
  | zero => intro l hl _; cases l with | nil => exact .nil | cons => simp at hl
  | succ n ih =>
    intro l hl hj
    have hne : l ≠ [] := by intro z; rw [z] at hl; simp at hl
    have el : l = l.dropLast ++ [l.getLast hne] := (List.dropLast_concat_getLast hne).symm
    rw [List.range_succ, List.map_append, el]
    refine Vals.append (ih _ (by rw [List.length_dropLast, hl]; rfl) fun j v e => hj j v ?_) (.cons ?_ .nil)
    · rw [List.getElem?_dropLast] at e
      split at e
      · exact e
      · cases e
    · obtain ⟨t, e⟩ := hj n (l.getLast hne) (by rw [List.getLast_eq_getElem, List.getElem?_eq_getElem (by omega)]; congr 1; simp [hl])
      exact ⟨t, by rw [e]; congr 1; omega⟩
theorem call_list_rng2 (hc : X.calm = true) : CallR X (.type "list") (fun xs H Q => ∃ (r : Addr) (i j : Int), xs = [.ref r] ∧ H r = some (.rng i j) ∧ -1000 ≤ i ∧ i ≤ j ∧ j ≤ 1000 ∧ j - i ≤ 1000 ∧ ∀ l, H l = none → Q (.ref l) (upd H l (.lst ((List.range (j - i).toNat).map fun (k : Nat) => .int (i + (k : Int)))))) := by
  intro pins s σ H xs us Q I r h
  obtain ⟨a, i, j, rfl, ha, h0, h1, h2, h3, q⟩ := h
  obtain ⟨u, rfl, ru⟩ := vals1 r
  cases ru
  obtain ⟨t, u, v, e⟩ := I.hok a _ ha
  refine call_list_range (n := (j - i).toNat) (I.ok.hd hc) (show IsRange s.heap a i j 1 t u v from e) (small_one (by omega) (by omega) (by omega) (by omega)) (by rw [rangeSize_one]; split <;> omega) (small24 (by omega)) fun h' tk acc c' kp hl hacc => ?_
  obtain ⟨hsz, hit⟩ := hacc
  have rv := vals_rng (lo := i) (j - i).toNat acc.toList (by simpa using hsz) fun j v e => hit j v (by simpa using e)
  refine ⟨.ref s.heap.objs.size, _, I.laid (o := .lst ((List.range (j - i).toNat).map fun (k : Nat) => V.int (i + (k : Int)))) (t' := tk) kp (Nat.le_refl _) ?_, rfl, q _ (I.hok.fresh (Nat.le_refl _))⟩
  refine ⟨?_, acc.toList, c', rv, by rw [Array.toArray_toList]; exact hl⟩
  rw [List.length_map, List.length_range]
  have := (by decide : 3000 < sizeLine)
  omega
end
end L2
namespace PV
open PySem PySem.Spec L2
section
variable {X : Cx} {T : Tg} {m o : Bool} {a b : Expr} {pos p : Pos} {wr : WA} {x : Str}
noncomputable def dRange2 : GA
  | [.int i, .int j], k => -1000 ≤ i ∧ i ≤ j ∧ j ≤ 1000 ∧ j - i ≤ 1000 ∧ k (.lst (rngD i (j - i).toNat))
  | _, _ => False
theorem range2_inv {ds : List D} {k : D → Prop} (q : dRange2 ds k) : ∃ i j, ds = [.int i, .int j] := by
  cases ds with
  | nil => exact (show False from q).elim
  | cons d0 ds =>
    cases ds with
    | nil => cases d0 <;> exact (show False from q).elim
    | cons d1 ds =>
      cases d0 with
      | int i =>
        cases d1 with
        | int j =>
          cases ds with
          | nil => exact ⟨i, j, rfl⟩
          | cons _ _ => exact (show False from q).elim
        | _ => exact (show False from q).elim
      | _ => exact (show False from q).elim
theorem ev_listRange2 {p3 p4 pos2 : Pos} (hm : X.mg "range" = none) (hm2 : X.mg "list" = none) (ha : AV X T m o [a, b] wr) (hg : Gl X "range" := by rfl) (hg2 : Gl X "list" := by rfl) (hc : X.calm = true := by rfl) (hs : starEach [a, b] X.env = (false, eval a X.env) :: starEach [b] X.env := by rfl) (hp : (backTo pos2 (starEach [b] X.env)).any (·.1) = false := by rfl)
    (hs2 : starEach [.Call (.Name "range" p4) [a, b] [] pos2] X.env = (false, eval (.Call (.Name "range" p4) [a, b] [] pos2) X.env) :: starEach [] X.env := by rfl) :
    EV X T m true (.Call (.Name "list" p3) [.Call (.Name "range" p4) [a, b] [] pos2] [] pos) (wCall dRange2 wr) := by
  obtain ⟨ta, pa, ga⟩ := ha
  refine ⟨_, pe_callTy (call_list_rng2 hc) hg2 hm2 (by rfl) (pa_cons (pe_range2 hg hm pa hs hp) pa_nil hs2), fun z R σ H W ρ Q Q' s hw k => ?_⟩
  refine ga z R σ H W ρ _ _ s hw fun vs H1 W1 ds ρ1 F p q => ?_
  have q0 : dRange2 ds fun d => Q d ρ1 := q
  clear q
  obtain ⟨i, j, rfl⟩ := range2_inv q0
  have q := q0
  obtain ⟨v, u, F1, F2, rfl, rd, rd2⟩ := p.rep.at2
  cases rd
  cases rd2
  refine ⟨i, j, rfl, fun r hr => ⟨r, i, j, rfl, upd_same, q.1, q.2.1, q.2.2.1, q.2.2.2.1, fun l hl => ?_⟩⟩
  have s12 : Same H1 (upd (upd H1 r (.rng i j)) l (.lst ((List.range (j - i).toNat).map fun (k : Nat) => .int (i + (k : Int))))) := (same_upd hr).trans (same_upd hl)
  refine k _ _ W1 (.lst (rngD i (j - i).toNat)) ρ1 [l] (Post.fin p.sr p.fr p.calm s12 (.lst upd_same ?_) (by simp) fun b mb => by rw [List.mem_singleton.mp mb]; exact (same_upd hr).free hl) q.2.2.2.2
  have e1 : rngD i (j - i).toNat = ((List.range (j - i).toNat).map fun (k : Nat) => i + (k : Int)).map D.int := by simp [rngD]
  have e2 : ((List.range (j - i).toNat).map fun (k : Nat) => V.int (i + (k : Int))) = ((List.range (j - i).toNat).map fun (k : Nat) => i + (k : Int)).map V.int := by simp
  rw [e1, e2]
  exact Reps.ints _
noncomputable def wTka (i : Nat) (n : Int) : WS := fun P ρ => oget (look ρ i) fun d => match d with
  | .tup (.lst xs :: ds) => pureL xs = true ∧ pureL ds = true ∧ xs.length < sizeLine ∧ P.nx (ρ.set i (some (.tup (.lst (xs ++ [.int n]) :: ds))))
  | _ => False
theorem sv_tka {i : Nat} {n : Int} {j1 j2} {ps1 ap2 cp2 p1 p2 : Pos} (ht : T.own i = true := by rfl) (hN : X.N[i]? = some x := by rfl)
    (hvis : Vis X.env.scope x := by first | exact Or.inl rfl | exact Or.inr (Or.inl rfl) | exact Or.inr (Or.inr rfl)) (hd : (x == ("__debug__" : Str)) = false := by decide) (hcd : (x == ("__classdict__" : Str)) = false := by decide) (hs1 : PlainIx (.Constant (.int 0) j1 p1) := by intro _ _; rfl)
    (b2 : attributeBase (.Subscript (.Name x p) (.Constant (.int 0) j1 p1) ps1) "append" X.env (eval (.Subscript (.Name x p) (.Constant (.int 0) j1 p1) ps1) X.env) = eval (.Subscript (.Name x p) (.Constant (.int 0) j1 p1) ps1) X.env := by rfl)
    (f2 : ((backTo cp2 (starEach [.Constant (.int n) j2 p2] X.env)).all (fun x => !x.1) && (backToKw cp2 (keywordEach [] X.env)).all (fun x => x.1.isSome)
      && decide (([.Constant (.int n) j2 p2] : List Expr).length + ([] : List Keyword).length + (if ([] : List Keyword).isEmpty then 0 else 1) < 30)) = true := by rfl)
    (l2 : (ap2.endLine == cp2.line) = true := by rfl) (s2 : starEach [.Constant (.int n) j2 p2] X.env = (false, eval (.Constant (.int n) j2 p2) X.env) :: starEach [] X.env := by rfl) (q2 : (backTo cp2 (starEach [] X.env)).any (·.1) = false := by rfl)
    (hs : swapsWith (.Call (.Attribute (.Subscript (.Name x p) (.Constant (.int 0) j1 p1) ps1) "append" ap2) [.Constant (.int n) j2 p2] [] cp2) none pos.line X.env = pure false := by rfl) :
    SV X T (.Expr (.Call (.Attribute (.Subscript (.Name x p) (.Constant (.int 0) j1 p1) ps1) "append" ap2) [.Constant (.int n) j2 p2] [] cp2) pos) (wTka i n) := by
  refine ⟨_, ps_expr (pe_bm PySem.F.plainAttrs_list PySem.F.slot_list_append PySem.F.type_list_append mt_append (pe_ix ix_tup (pe_var hN hvis hd hcd) pe_int hs1) (pa_cons pe_int pa_nil s2) b2 f2 l2 s2 q2) hs, fun z R σ H W ρ P E s hw l => ?_⟩
  obtain ⟨sd, hl0, hw⟩ := oget_some hw
  match sd, hl0, hw with
  | .tup (.lst xs :: ds), hl0, hw =>
    obtain ⟨h1, h2, h3, qn⟩ := hw
    obtain ⟨fp, s0⟩ := id s
    obtain ⟨v0, hv0, r0⟩ := s0.at_ i _ hl0
    obtain ⟨nd0, sw0⟩ := s0.own i _ hl0 ht
    have fin2 : ∃ (tp l0 : Addr) (us ys : List V), v0 = .ref tp ∧ H tp = some (.tup (.ref l0 :: us)) ∧ H l0 = some (.lst ys) ∧ ys.length = xs.length ∧ l0 ∈ fp i ∧ Rep X.K (upd H l0 (.lst (ys ++ [.int n]))) (.tup (.lst (xs ++ [.int n]) :: ds)) (.ref tp) [l0] ∧ fp i = [l0] := by
      generalize fp i = Fi at r0
      cases r0 with
      | @tup tp vs _ F e1 r =>
        cases r with
        | @cons _ v _ us F1 F2 ra rb =>
          obtain ⟨z2, rb⟩ := rb.pure h2
          cases ra with
          | @lst l0 ys _ F3 e2 r3 =>
            obtain ⟨z3, r3⟩ := r3.pure h1
            subst z2 z3
            have sm : ∀ b ob, H b = some ob → b ≠ l0 → upd H l0 (.lst (ys ++ [.int n])) b = some ob := fun b ob e hne => by rw [upd_ne hne]; exact e
            have im : ImmK H (upd H l0 (.lst (ys ++ [.int n]))) := imm_upd e2 rfl
            refine ⟨tp, l0, us, ys, rfl, e1, e2, r3.length, by simp, ?_, by simp⟩
            refine .tup (xs := .ref l0 :: us) (im _ _ e1 rfl) ?_
            exact .cons (F := [l0]) (G := []) (.lst (F := []) upd_same (Reps.append (F := []) (G := []) (r3.frame im fun a m => nomatch m) (Reps.one (.int n)))) (rb.frame im fun a m => nomatch m)
    obtain ⟨tp, l0, us, ys, rfl, e1, e2, hlen, hm, hrep, hfp⟩ := fin2
    refine ⟨_, hv0, tp, _, 0, .ref l0, rfl, rfl, .of e1, atI_nat (j := 0) rfl, .inl ⟨rfl, _, .of e2⟩, l0, ys, .int n, rfl, rfl, e2, by rw [hlen]; exact h3, ?_⟩
    have hWl := sw0 l0 hm
    have sF := s0.write hl0 ht hv0 hm upd_keep ⟨_, upd_same, rfl⟩ hrep (by simp) (fun a ha => .inl (by rw [List.mem_singleton.mp ha]; exact hm))
    have fF := (FrW.refl H W).write hWl (s0.wd l0 hWl) (H' := upd H l0 (.lst (ys ++ [.int n]))) upd_keep ⟨_, upd_same, rfl⟩ (F' := [l0]) (fun a ha => .inl (by rw [List.mem_singleton.mp ha]; exact hWl))
    exact l.nx R σ _ _ _ sF fF qn
end
theorem r13_range2 {i j : Int} {k : D → Prop} : dRange2 [.int i, .int j] k = (-1000 ≤ i ∧ i ≤ j ∧ j ≤ 1000 ∧ j - i ≤ 1000 ∧ k (.lst (rngD i (j - i).toNat))) := rfl
end PV
set_option Elab.async false
set_option linter.all false
set_option maxRecDepth 100000
set_option maxHeartbeats 4000000
namespace PV
open PySem PySem.Spec L2
section
variable {X : Cx} {T : Tg} {o1 : Bool} {e : Expr} {w : WE} {pos p q : Pos} {x : Str}
noncomputable def wRetT (i : Nat) (w : WE) : WS := fun P ρ => oget (look ρ i) fun d => w ρ fun n _ => n.pure = true ∧ P.rt (.tup [d, n]) (ρ.set i none)
theorem sv_retT {i : Nat} {kt} (he : EV X T false o1 e w) (ht : T.own i = true := by rfl) (hN : X.N[i]? = some x := by rfl) (hv : Vis X.env.scope x := by first | exact Or.inl rfl | exact Or.inr (Or.inl rfl) | exact Or.inr (Or.inr rfl)) (hd : (x == ("__debug__" : Str)) = false := by decide)
    (hcd : (x == ("__classdict__" : Str)) = false := by decide) (hs : starEach [.Name x p, e] X.env = (false, eval (.Name x p) X.env) :: starEach [e] X.env := by rfl) (hs2 : starEach [e] X.env = (false, eval e X.env) :: starEach [] X.env := by rfl) : SV X T (.Return (some (.Tuple [.Name x p, e] kt q)) pos) (wRetT i w) := by
  obtain ⟨te, pe, ge⟩ := he
  refine ⟨_, ps_ret (pe_tup (pa_cons (pe_var hN hv hd hcd) (pa_cons pe pa_nil hs2) hs)), fun z R σ H W ρ P E s hw l => ?_⟩
  obtain ⟨d, hl, qw⟩ := oget_some hw
  obtain ⟨fp, s0⟩ := id s
  obtain ⟨v, h1, h2⟩ := s0.at_ i d hl
  refine ⟨v, h1, ge z R σ H W ρ _ _ s qw fun u H1 W1 n ρ1 F p qq => ?_⟩
  obtain ⟨hp, qq⟩ := qq
  obtain ⟨sm, hW, hρ⟩ := p.calm rfl
  obtain ⟨_, rn⟩ := p.rep.pure hp
  refine ⟨by show 2 ≤ sizeLine; decide, fun tp htp => ?_⟩
  have key : ∀ j e, look (ρ.set i none) j = some e → j ≠ i ∧ look ρ j = some e := fun j e h => by
    rw [look_set] at h
    split at h
    · cases h
    · refine ⟨fun z => ?_, h⟩
      subst z
      rename_i hn
      exact hn ⟨rfl, look_lt hl⟩
  have sm2 : Same H1 (upd H1 tp (.tup [v, u])) := same_upd htp
  have smA : Same H (upd H1 tp (.tup [v, u])) := sm.trans sm2
  have rep : Rep X.K (upd H1 tp (.tup [v, u])) (.tup [d, n]) (.ref tp) (fp i) := by
    have r2 := Reps.append (F := fp i) (G := []) (Reps.one ((h2.same sm).same sm2)) (Reps.one (rn.same sm2))
    rw [List.append_nil] at r2
    exact .tup upd_same r2
  refine l.rt R (.ref tp) σ _ (fun a => W a ∧ a ∉ fp i) (ρ.set i none) (.tup [d, n]) (fp i) ⟨fp, ?_⟩ ?_ rep (s0.own i d hl ht).1 (fun a ha => ⟨fun h => h.2 ha, .inl ((s0.own i d hl ht).2 a ha)⟩) qq
  · refine ⟨by rw [List.length_set]; exact s0.len, fun a h => ?_, fun j e h => ?_, fun j e h t => ⟨(s0.own j e (key j e h).2 t).1, fun a ha => ⟨(s0.own j e (key j e h).2 t).2 a ha, fun ha' => s0.dis j i e d (key j e h).2 hl t ht (key j e h).1 a ha ha'⟩⟩,
      fun j e h t => s0.ro j e (key j e h).2 t, fun a h => s0.wr a h.1, fun a h => ?_, fun j k e e' h h' t t' => s0.dis j k e e' (key j e h).2 (key k e' h').2 t t', s0.fix⟩
    · obtain ⟨ob, e1, e2⟩ := s0.wd a h.1
      exact ⟨ob, smA a ob e1, e2⟩
    · obtain ⟨u', a1, a2⟩ := s0.at_ j e (key j e h).2
      exact ⟨u', a1, a2.same smA⟩
    · obtain ⟨ob, e1, e2⟩ := s0.rd a h
      exact ⟨ob, smA a ob e1, e2⟩
  · have hdom : ∀ b, (upd H1 tp (.tup [v, u])) b = none → H b = none := fun b e => by
      cases q0 : H b with
      | none => rfl
      | some ob => rw [smA b ob q0] at e; cases e
    exact ⟨fun b ob e _ => smA b ob e, hdom, fun b ob e _ => smA b ob e, fun b h => .inl h.1⟩
end
theorem r14_isN {k : D → Prop} : dIs false .non .non k = k (.bl true) := rfl
theorem r14_isO {xs : List D} {k : D → Prop} : dIs false (.tup xs) .non k = k (.bl false) := rfl
theorem r14_isX {x : Str} {fs : List (Str × Int)} {k : D → Prop} : dIs false (.obj x fs) .non k = k (.bl false) := rfl
end PV
set_option Elab.async false
set_option linter.all false
set_option maxRecDepth 100000
set_option maxHeartbeats 4000000
namespace PV
open PySem PySem.Spec L2
section
variable {i j : Int} {x y : Str} {xs ys : List D} {k : D → Prop} {b c : Bool} {d e : D} {kvs kus : List (Key × D)}
theorem r2_add : dAddT (.int i) (.int j) k = k (.int (i + j)) := rfl
theorem r2_addL : dAddT (.lst xs) (.lst ys) k = (pureL xs = true ∧ pureL ys = true ∧ xs.length + ys.length ≤ sizeLine ∧ k (.lst (xs ++ ys))) := rfl
theorem r2_slL {lo hi : Option Int} : dSlT (.lst xs) lo hi k = (pureL xs = true ∧ k (.lst (cutD xs lo hi))) := rfl
theorem r2_slK {lo hi : Option Int} : dSlT (.kls xs) lo hi k = (pureL xs = true ∧ k (.lst (cutD xs lo hi))) := rfl
end
end PV
set_option Elab.async false
set_option linter.all false
set_option maxRecDepth 100000
set_option maxHeartbeats 4000000
namespace PV
open PySem PySem.Spec L2
section
variable {ns : List Int} {n : Int} {k : D → Prop} {xs : List D} {kvs : List (Key × D)}
end
end PV
set_option Elab.async false
set_option linter.all false
set_option maxRecDepth 100000
set_option maxHeartbeats 4000000
namespace PV
open PySem PySem.Spec L2
section
variable {i j : Int} {k : D → Prop} {xs ys : List D} {bs : List Bool} {d e : D}
end
end PV
set_option Elab.async false
set_option linter.all false
set_option maxRecDepth 100000
set_option maxHeartbeats 4000000
namespace PV
open PySem PySem.Spec L2
theorem pick3 {a b c : D} {r : Int} (h0 : 0 ≤ r) (h1 : r < 3) : L2.atI [a, b, c] r = some a ∨ L2.atI [a, b, c] r = some b ∨ L2.atI [a, b, c] r = some c := by
  have : r = 0 ∨ r = 1 ∨ r = 2 := by omega
  rcases this with rfl | rfl | rfl
  · exact .inl rfl
  · exact .inr (.inl rfl)
  · exact .inr (.inr rfl)
theorem rngD_length {lo : Int} {n : Nat} : (rngD lo n).length = n := by simp [rngD]
theorem pure_rngD {lo : Int} {n : Nat} : pureL (rngD lo n) = true := pureL_map fun _ _ => rfl
theorem pure_ints {ns : List Int} : pureL (ns.map D.int) = true := pureL_map fun _ _ => rfl
theorem cut_from {ds : List D} {a : Nat} (h : a ≤ ds.length) : cutD ds (some (a : Int)) none = ds.drop a := by
  unfold cutD
  rw [HT.sIx_nat, HT.sIx_none, Nat.min_eq_left h, List.take_of_length_le (by simp)]
theorem cut_to {ds : List D} {b : Nat} : cutD ds none (some (b : Int)) = ds.take b := by
  unfold cutD
  rw [HT.sIx_nat, HT.sIx_none, List.drop_zero, Nat.sub_zero]
  by_cases h : b ≤ ds.length
  · rw [Nat.min_eq_left h]
  · rw [Nat.min_eq_right (by omega), List.take_of_length_le (by omega), List.take_of_length_le (by omega)]
structure Pr (N : Nat) (xs : List Int) (t : Nat) (L : List Nat) (Bs : List Int) (ps : List (Nat × Nat)) : Prop where
  bl : Bs.length = N
  pl : ps.length = t
  perm : (ps.flatMap (fun p => [p.1, p.2]) ++ L).Perm (List.range N)
  val : ∀ (s : Nat) p, ps[s]? = some p → ∃ x, xs[s]? = some x ∧ Bs[p.1]? = some x ∧ Bs[p.2]? = some x
theorem Pr.lt {N : Nat} {xs : List Int} {t : Nat} {L : List Nat} {Bs : List Int} {ps : List (Nat × Nat)} (h : Pr N xs t L Bs ps) {i : Nat} (hi : i ∈ L) : i < N := by
  have := h.perm.mem_iff.mp (List.mem_append.mpr (.inr hi))
  exact List.mem_range.mp this
theorem Pr.nd {N : Nat} {xs : List Int} {t : Nat} {L : List Nat} {Bs : List Int} {ps : List (Nat × Nat)} (h : Pr N xs t L Bs ps) : (ps.flatMap (fun p => [p.1, p.2]) ++ L).Nodup := h.perm.nodup_iff.mpr List.nodup_range
theorem Pr.start (N : Nat) (xs : List Int) : Pr N xs 0 (List.range N) (List.replicate N 0) [] := ⟨by simp, rfl, by simp, fun s p h => by simp at h⟩
theorem perm_erase {α : Type} : ∀ {l : List α} {i : Nat} (h : i < l.length), (l[i] :: l.eraseIdx i).Perm l
  | a :: l, 0, _ => List.Perm.refl _
  | a :: l, i + 1, h => by
    have := perm_erase (l := l) (i := i) (by simpa using h)
    simp only [List.getElem_cons_succ, List.eraseIdx_cons_succ]
    exact (List.Perm.swap _ _ _).trans (this.cons a)
theorem Pr.step {N : Nat} {xs : List Int} {t i s : Nat} {L : List Nat} {Bs : List Int} {ps : List (Nat × Nat)} {x : Int} (h : Pr N xs t (i :: L) Bs ps) (hx : xs[t]? = some x) (hs : s < L.length) :
    Pr N xs (t + 1) (L.eraseIdx s) ((Bs.set i x).set L[s] x) (ps ++ [(i, L[s])]) := by
  have nd := h.nd
  obtain ⟨n1, n2, n3⟩ := List.nodup_append.mp nd
  have hjm : L[s] ∈ L := List.getElem_mem hs
  have hij : i ≠ L[s] := fun z => (List.nodup_cons.mp n2).1 (z ▸ hjm)
  have hi := h.lt (List.mem_cons_self (a := i))
  have hj := h.lt (List.mem_cons_of_mem i hjm)
  refine ⟨by simp [h.bl], by simp [h.pl], ?_, fun s' p hp => ?_⟩
  · rw [List.flatMap_append]
    refine List.Perm.trans ?_ h.perm
    rw [List.append_assoc]
    refine List.Perm.append_left _ ?_
    show (i :: L[s] :: L.eraseIdx s).Perm (i :: L)
    exact List.Perm.cons _ (perm_erase hs)
  · by_cases hs' : s' < ps.length
    · rw [List.getElem?_append_left hs'] at hp
      obtain ⟨y, h1, h2, h3⟩ := h.val s' p hp
      have mem : ∀ a, a = p.1 ∨ a = p.2 → a ∈ ps.flatMap (fun p => [p.1, p.2]) := fun a ha => List.mem_flatMap.mpr ⟨p, List.mem_of_getElem? hp, by simpa using ha⟩
      have ne : ∀ a, a = p.1 ∨ a = p.2 → i ≠ a ∧ L[s] ≠ a := fun a ha => ⟨fun z => n3 a (mem a ha) i List.mem_cons_self z.symm, fun z => n3 a (mem a ha) L[s] (List.mem_cons_of_mem _ hjm) z.symm⟩
      refine ⟨y, h1, ?_, ?_⟩
      · rw [List.getElem?_set_ne (ne _ (.inl rfl)).2, List.getElem?_set_ne (ne _ (.inl rfl)).1]; exact h2
      · rw [List.getElem?_set_ne (ne _ (.inr rfl)).2, List.getElem?_set_ne (ne _ (.inr rfl)).1]; exact h3
    · have e : s' = t := by
        have := (List.getElem?_eq_some_iff.mp hp).1
        have := h.pl
        simp at *
        omega
      subst e
      rw [List.getElem?_append_right (by omega), h.pl, Nat.sub_self] at hp
      simp at hp
      subst hp
      refine ⟨x, hx, ?_, ?_⟩
      · rw [List.getElem?_set_ne (Ne.symm hij), List.getElem?_set_self (by rw [h.bl]; exact hi)]
      · rw [List.getElem?_set_self (by rw [List.length_set, h.bl]; exact hj)]
theorem len1 {α : Type} : ∀ {us : List α}, us.length = 1 → ∃ a, us = [a]
  | [a], _ => ⟨a, rfl⟩
theorem len2 {α : Type} {us : List α} (h : us.length = 2) : ∃ a b, us = [a, b] := by
  cases us with
  | nil => cases h
  | cons a us => obtain ⟨b, rfl⟩ := len1 (Nat.succ.inj h); exact ⟨a, b, rfl⟩
theorem len3 {α : Type} {us : List α} (h : us.length = 3) : ∃ a b c, us = [a, b, c] := by
  cases us with
  | nil => cases h
  | cons a us => obtain ⟨b, c, rfl⟩ := len2 (Nat.succ.inj h); exact ⟨a, b, c, rfl⟩
end PV
set_option Elab.async false
set_option linter.all false
set_option maxRecDepth 100000
set_option maxHeartbeats 4000000
namespace PV
open PySem PySem.Spec L2
end PV
set_option Elab.async false
set_option linter.all false
set_option maxRecDepth 100000
set_option maxHeartbeats 4000000
namespace M
open PySem PySem.Spec L2 PV
noncomputable def ix (a : Int) : List Int → Nat
  | [] => 0
  | x :: l => if x = a then 0 else ix a l + 1
noncomputable def keys (A : Nat → Int) (t : Nat) : List Int := (plc A t).map (·.1)
end M
namespace PV
open PySem PySem.Spec L2
noncomputable def num : Nat → List Int → List (Key × D)
  | _, [] => []
  | n, a :: l => (.inl a, .int (n : Nat)) :: num (n + 1) l
end PV
set_option Elab.async false
set_option linter.all false
namespace M32
noncomputable def bin : Nat → Nat → Nat
  | _, 0 => 1
  | 0, _ + 1 => 0
  | n + 1, k + 1 => bin n k + bin n (k + 1)
noncomputable def sg (r : Nat) : Int := if r % 2 = 0 then 1 else -1
noncomputable def num (r k : Nat) : Int := sg r * (bin r k : Int)
open PV L2
section
variable {c : Int} {f : Nat → D} {n i : Nat}
noncomputable def nm (r : Nat) (j : Nat) : D := .int (num r j)
end
noncomputable def wt (p : Int) (r : Nat) (n : Nat) : List D := (List.range n).map fun (k : Nat) => .tup [.int (p + 4 * (k : Int)), .int (num r k)]
end M32
set_option Elab.async false
set_option linter.all false
set_option maxRecDepth 100000
set_option maxHeartbeats 4000000
namespace PV
open PySem PySem.Spec L2
section
variable {X : Cx} {T : Tg} {m o m1 m2 m3 o1 o2 : Bool} {e a b : Expr} {w wa wb : WE} {pos p2 p : Pos} {es : List Expr} {wr : WA} {x : Str}
variable {name : Str} {apos cpos : Pos} {T' id : String}
end
end PV
namespace S03
open PySem PySem.Spec L2 PV
open PySem.Builtin.Str (glued)
noncomputable def nw (n : Int) : Str := Str.ofString (toString n)
noncomputable def wx : Str := Str.ofString "x"
noncomputable def we : Str := Str.ofString "e"
noncomputable def wo : Str := Str.ofString "o"
noncomputable def Wx (A : Nat → Int) : Nat → List Str
  | 0 => []
  | k + 1 => Wx A k ++ (wx :: (List.range 4).map fun j => nw (A (4 * k + j)))
noncomputable def We (m e : Nat) (A : Nat → Int) : List Str := if e = 0 then [] else we :: (List.range e).map fun j => nw (A (4 * m + j))
noncomputable def Wo (r : Int) : List Str := if 0 < r then [wo, nw r] else []
noncomputable def Ws (m e : Nat) (A : Nat → Int) (r : Int) : List Str := Wx A m ++ (We m e A ++ Wo r)
noncomputable def eo (m e : Nat) : Nat := if e = 0 then 5 * m else 5 * m + 1 + e
noncomputable def tx (m e : Nat) (A : Nat → Int) (r : Int) : Str := glued (Str.ofString " ") (Ws m e A r)
variable {k : D → Prop} {kk : D → D → Prop} {i : Int} {x y : Str} {xs ys : List D} {kvs : List (Key × D)}
theorem small {n : Nat} (h : n ≤ 100000) : n < sizeLine := Nat.lt_of_le_of_lt h (by decide)
end S03
set_option Elab.async false
set_option linter.all false
set_option maxRecDepth 100000
set_option maxHeartbeats 4000000
namespace S24
open PySem PySem.Spec L2 PV S03
open PySem.Builtin.Str (glued occurrences strSub subAt)
noncomputable def av (n : Int) : Int := if n < 0 then -n else n
noncomputable def fore (t : Int × Int) : Str := if av t.2 = 1 then Str.ofString "" else nw (av t.2)
noncomputable def hind (p : Int) : Str := if p = 1 then Str.ofString "" else Str.ofString "^" ++ nw p
noncomputable def tm (t : Int × Int) : Str := if t.1 = 0 then nw (av t.2) else fore t ++ Str.ofString "x" ++ hind t.1
noncomputable def sg (n : Int) : Str := if n < 0 then Str.ofString "-" else Str.ofString "+"
noncomputable def ws (ts : List (Int × Int)) : List Str := ts.flatMap fun t => [sg t.2, tm t]
noncomputable def fst (n : Int) : Str := if n < 0 then Str.ofString "-" else Str.ofString ""
noncomputable def tx : List (Int × Int) → Str
  | [] => Str.ofString "0"
  | t :: r => fst t.2 ++ glued (Str.ofString " ") (tm t :: ws r)
section
variable {k : D → Prop} {i : Int} {x y : Str} {xs zs : List D}
end
end S24
set_option Elab.async false
set_option linter.all false
namespace V68
noncomputable def adj (ah : List Int) (m : Int) : List Int := match ah.getLast? with
  | none => []
  | some z => ah.dropLast ++ [z + m]
theorem adj_snoc {bs : List Int} {z m : Int} : adj (bs ++ [z]) m = bs ++ [z + m] := by
  unfold adj
  rw [List.getLast?_append]
  simp
end V68
set_option Elab.async false
set_option linter.all false
set_option maxRecDepth 100000
set_option maxHeartbeats 4000000
namespace K68
open PySem PySem.Spec L2 PV
open PyProof.Rows (envOfC)
open V68
noncomputable def top (i : Nat) : Stmt := PySem.Challenge.pw_tanglehouse_k68_steps_of_lists.main.body.getD i (.Pass ⟨0, 0, 0, 0⟩)
noncomputable def isT (b : Bool) (x : Str) : Option Bool := if x = (Str.ofString "NoStep") then some b else none
theorem isT_val {b k : Bool} {x : Str} (h : isT b x = some k) : k = b := by
  unfold isT at h
  split at h
  · cases h; rfl
  · cases h
theorem isT_name {b k : Bool} {x : Str} (h : isT b x = some k) : x = (Str.ofString "NoStep") := by
  unfold isT at h
  split at h
  · assumption
  · cases h
noncomputable def isR (x : Str) : Bool := decide (x = (Str.ofString "NoStep"))
structure Bn (K : PySem.W.Frag) (mg : Str → Option Value) : Prop where
  nb_abs : mg "abs" = none
  nb_bool : mg "bool" = none
  nb_int : mg "int" = none
  nb_isinstance : mg "isinstance" = none
  nb_len : mg "len" = none
  nb_list : mg "list" = none
  nb_max : mg "max" = none
  nb_range : mg "range" = none
  nb_tuple : mg "tuple" = none
  e_NoStep : ∃ C, ExcK K mg "NoStep" C ∧ atN K "NoStep" C
  h_TangleError : ∃ C0, mg "TangleError" = some (.ref C0) ∧ ∀ x C, isR x = true → atN K x C → PySem.W.exmOne K (.ref C) (.ref C0) = some true
  i_NoStep : ∃ C, mg "NoStep" = some (.ref C) ∧ ∀ x k R, isT true x = some k → atN K x R → ExcQ K R ∧ PySem.W.kitOne K (.ref R) (.ref C) = some k
  i_BadPace : ∃ C, mg "BadPace" = some (.ref C) ∧ ∀ x k R, isT false x = some k → atN K x R → ExcQ K R ∧ PySem.W.kitOne K (.ref R) (.ref C) = some k
  i_NoMatch : ∃ C, mg "NoMatch" = some (.ref C) ∧ ∀ x k R, isT false x = some k → atN K x R → ExcQ K R ∧ PySem.W.kitOne K (.ref R) (.ref C) = some k
  i_NoName : ∃ C, mg "NoName" = some (.ref C) ∧ ∀ x k R, isT false x = some k → atN K x R → ExcQ K R ∧ PySem.W.kitOne K (.ref R) (.ref C) = some k
  i_NoRow : ∃ C, mg "NoRow" = some (.ref C) ∧ ∀ x k R, isT false x = some k → atN K x R → ExcQ K R ∧ PySem.W.kitOne K (.ref R) (.ref C) = some k
  i_NoText : ∃ C, mg "NoText" = some (.ref C) ∧ ∀ x k R, isT false x = some k → atN K x R → ExcQ K R ∧ PySem.W.kitOne K (.ref R) (.ref C) = some k
  i_NoTurning : ∃ C, mg "NoTurning" = some (.ref C) ∧ ∀ x k R, isT false x = some k → atN K x R → ExcQ K R ∧ PySem.W.kitOne K (.ref R) (.ref C) = some k
  i_NotFlat : ∃ C, mg "NotFlat" = some (.ref C) ∧ ∀ x k R, isT false x = some k → atN K x R → ExcQ K R ∧ PySem.W.kitOne K (.ref R) (.ref C) = some k
  i_NoWeb : ∃ C, mg "NoWeb" = some (.ref C) ∧ ∀ x k R, isT false x = some k → atN K x R → ExcQ K R ∧ PySem.W.kitOne K (.ref R) (.ref C) = some k
  i_Odd : ∃ C, mg "Odd" = some (.ref C) ∧ ∀ x k R, isT false x = some k → atN K x R → ExcQ K R ∧ PySem.W.kitOne K (.ref R) (.ref C) = some k
  i_TooMany : ∃ C, mg "TooMany" = some (.ref C) ∧ ∀ x k R, isT false x = some k → atN K x R → ExcQ K R ∧ PySem.W.kitOne K (.ref R) (.ref C) = some k
  i_TooWide : ∃ C, mg "TooWide" = some (.ref C) ∧ ∀ x k R, isT false x = some k → atN K x R → ExcQ K R ∧ PySem.W.kitOne K (.ref R) (.ref C) = some k
  i_ValueError : mg "ValueError" = none ∧ ∀ x k R, isT true x = some k → atN K x R → ExcQ K R ∧ PySem.W.kitOne K (.ref R) (.type "ValueError") = some k
theorem small {n : Nat} (h : n ≤ 2000) : n < sizeLine := Nat.lt_of_le_of_lt h (by decide)
noncomputable abbrev I (l : List Int) : List D := l.map .int
theorem pI {l : List Int} : pureL (I l) = true := pure_ints
theorem pc {P R : List D} (h1 : pureL P = true) (h2 : pureL R = true) : pureL (P ++ R) = true := pureL_iff.mpr fun x hx => (List.mem_append.mp hx).elim (pureL_iff.mp h1 x) (pureL_iff.mp h2 x)
theorem pu {P R : List Int} {n r : Int} : pureL (I P ++ .int n :: .int r :: I R) = true := pc pI (by simp only [pureL, D.pure, Bool.true_and]; exact pI)
section
variable {P R : List D} {x y z y' : D}
theorem at0 : L2.atI (P ++ x :: y :: R) (P.length : Int) = some x := by rw [atI_ofNat, List.getElem?_append_right (Nat.le_refl _), Nat.sub_self]; rfl
theorem at1 : L2.atI (P ++ x :: y :: R) ((P.length : Int) + 1) = some y := by
  rw [show (P.length : Int) + 1 = ((P.length + 1 : Nat) : Int) by omega, atI_ofNat, List.getElem?_append_right (by omega), show P.length + 1 - P.length = 1 by omega]; rfl
theorem atm : L2.atI ((P ++ [z]) ++ x :: y :: R) (((P ++ [z]).length : Int) - 1) = some z := by
  rw [show ((P ++ [z]).length : Int) - 1 = (P.length : Int) by simp, atI_ofNat, List.append_assoc, List.getElem?_append_right (Nat.le_refl _), Nat.sub_self]; rfl
theorem cutP : cutD (P ++ x :: y :: R) none (some (P.length : Int)) = P := by rw [cut_to, List.take_left]
theorem cutm : cutD ((P ++ [z]) ++ x :: y :: R) none (some (((P ++ [z]).length : Int) - 1)) = P := by
  rw [show ((P ++ [z]).length : Int) - 1 = (P.length : Int) by simp, cut_to, List.append_assoc, List.take_left]
theorem cut1 : cutD (P ++ x :: y :: R) (some ((P.length : Int) + 1)) none = y :: R := by
  rw [show (P.length : Int) + 1 = ((P.length + 1 : Nat) : Int) by omega, cut_from (by simp), List.drop_append, List.drop_of_length_le (by omega), show P.length + 1 - P.length = 1 by omega]; rfl
theorem cut2 : cutD (P ++ x :: y :: R) (some ((P.length : Int) + 2)) none = R := by
  rw [show (P.length : Int) + 2 = ((P.length + 2 : Nat) : Int) by omega, cut_from (by simp), List.drop_append, List.drop_of_length_le (by omega), show P.length + 2 - P.length = 2 by omega]; rfl
theorem ix1 : L2.ixN (P ++ x :: y :: R).length ((P.length : Int) + 1) = some (P.length + 1) := by
  unfold L2.ixN
  rw [if_pos (by omega), if_pos (by simp; omega)]
  congr 1
theorem set1 : (P ++ x :: y :: R).set (P.length + 1) y' = P ++ x :: y' :: R := by
  rw [List.set_append_right _ _ (by omega), show P.length + 1 - P.length = 1 by omega]; rfl
theorem ixm : L2.ixN ((P ++ [z]) ++ x :: y :: R).length (((P ++ [z]).length : Int) - 1) = some P.length := by
  unfold L2.ixN
  rw [if_pos (by simp), if_pos (by simp; omega)]
  congr 1
  simp
theorem setm : ((P ++ [z]) ++ x :: y :: R).set P.length y' = (P ++ [y']) ++ x :: y :: R := by
  rw [List.append_assoc, List.set_append_right _ _ (Nat.le_refl _), Nat.sub_self, List.append_assoc]; rfl
theorem ers : (P ++ x :: y :: R).eraseIdx P.length = P ++ y :: R := by
  rw [List.eraseIdx_append_of_length_le (Nat.le_refl _), Nat.sub_self]; rfl
theorem sq0 : seqIndex? (P.length : Int) (P ++ x :: y :: R).length = some P.length := by
  unfold seqIndex?
  simp
  omega
theorem ge0 : (P ++ x :: y :: R)[P.length]? = some x := by rw [List.getElem?_append_right (Nat.le_refl _), Nat.sub_self]; rfl
end
noncomputable def g_is_whole : GA := fun ds k => ∃ n : Int, ds = [.int n] ∧ k (.bl true)
noncomputable abbrev s_is_whole : Stmt := top 15
theorem sc_is_whole : FnScope ["thing"] ["thing"] (defScope s_is_whole) := ⟨rfl, rfl, rfl, by decide +kernel, rfl, by decide +kernel, by decide +kernel⟩
noncomputable def t_is_whole : Tg := { own := fun i => false, io := [] }
noncomputable def w_is_whole : WS := (wRet (wAndV (wCall dIsi (wCons (wVar 0) (wCons (wC (.ty .int)) wNil))) (wNotV (wCall dIsi (wCons (wVar 0) (wCons (wC (.ty .bool)) wNil))))))
theorem b_is_whole {P : Program} {w : World} {K : PySem.W.Frag} {mg : Str → Option Value} {base : Heap} {f : Addr} (B : Bn K mg) : ∀ (cdv : Value) (A : Around) (outer : List PySem.Env) (s : Shared) (H : Hp) (E : XK), Room 0 (A.deeper (envOfC "is_whole" (defScope s_is_whole) s.heap.objs.size f cdv)) → SVs (cxOf CX0 P w K mg base ["thing"] "is_whole" (defScope s_is_whole) f cdv A outer s H E).nox t_is_whole (defBody s_is_whole) w_is_whole := fun cdv A outer s H E hr =>
    (svs_one (sv_ret (ev_and (ev_callB cd_isi B.nb_isinstance bt_isinstance (av_cons (ev_var 0) (av_cons (ev_ty .int B.nb_int bt_int) av_nil))) (ev_one (ev_not (ev_callB cd_isi B.nb_isinstance bt_isinstance (av_cons (ev_var 0) (av_cons (ev_ty .bool B.nb_bool bt_bool) av_nil))))))))
theorem ok_is_whole {P : Program} {w : World} {K : PySem.W.Frag} {mg : Str → Option Value} {base : Heap} {f : Addr} {fd : FuncData} (F : Fun K "is_whole" "is_whole" s_is_whole f fd) (B : Bn K mg) : FnOk P w K mg base CX0 1 f fd ["thing"] (spR K g_is_whole) := by
  refine fn_ro (T := t_is_whole) F sc_is_whole rfl (by decide) (fun ds kk h => ?_) (b_is_whole B) (fun ds kk h => ?_)
  · obtain ⟨n, rfl, _⟩ := h
    rfl
  · obtain ⟨n, rfl, k⟩ := h
    simp only [w_is_whole, wRet, env0, List.map_cons, List.map_nil, List.length_cons, List.length_nil, Nat.zero_add, List.cons_append, List.nil_append, r_andV, wCall, wCons, wC, wNil, r_notV, r_isi, isiD, r_blOf, r_var, look, oget_s, BEq.rfl, reduceIte]
    exact k
noncomputable def plc (l : List Int) (a : Int) : Bool := decide (0 ≤ a ∧ a < (l.length : Int) - 1)
noncomputable def g_is_placed : GA := fun ds k => ∃ (l : List Int) (w : Str) (a : Int), ds = [.lst (I l), .tup [.str w, .int a]] ∧ k (.bl (plc l a))
noncomputable abbrev s_is_placed : Stmt := top 17
theorem sc_is_placed : FnScope ["twists", "thing"] ["twists", "thing"] (defScope s_is_placed) := ⟨rfl, rfl, rfl, by decide +kernel, rfl, by decide +kernel, by decide +kernel⟩
noncomputable def t_is_placed : Tg := { own := fun i => false, io := [] }
noncomputable def w_is_placed : WS := (wSeq (wIf (wOr (wNot (wTru (wCall dIsi (wCons (wVar 1) (wCons (wC (.ty .tuple)) wNil))))) (wBl (wBin dNe (wCall dLen (wCons (wVar 1) wNil)) (wC (.int 2))))) (wRet (wC (.bl false))) wNext)
  (wRet (wAndV (wCall g_is_whole (wCons (wBin dIx (wVar 1) (wC (.int 1))) wNil)) (wChainV (dCmp fun i j => decide (i ≤ j)) (dCmp fun i j => decide (i < j)) (wC (.int 0)) (wBin dIx (wVar 1) (wC (.int 1))) (wBin dSub (wCall dLen (wCons (wVar 0) wNil)) (wC (.int 1)))))))
theorem b_is_placed {P : Program} {w : World} {K : PySem.W.Frag} {mg : Str → Option Value} {base : Heap} {f : Addr} (B : Bn K mg) (C_is_whole : Cal P w K mg base "is_whole" 1 ["thing"] (spR K g_is_whole)) : ∀ (cdv : Value) (A : Around) (outer : List PySem.Env) (s : Shared) (H : Hp) (E : XK), Room 1 (A.deeper (envOfC "is_placed" (defScope s_is_placed) s.heap.objs.size f cdv)) → SVs (cxOf CX0 P w K mg base ["twists", "thing"] "is_placed" (defScope s_is_placed) f cdv A outer s H E).nox t_is_placed (defBody s_is_placed) w_is_placed := fun cdv A outer s H E hr =>
    (svs_cons (sv_if (tv_bool (bv_or (tv_not (tv_tru (ev_callB cd_isi B.nb_isinstance bt_isinstance (av_cons (ev_var 1) (av_cons (ev_ty .tuple B.nb_tuple bt_tuple) av_nil))))) (bv_or1 (tv_cmp (od_ne hr.units) (ev_callB cd_len B.nb_len bt_len (av_cons (ev_var 1) av_nil)) ev_int)))) (svs_one (sv_ret ev_bl)) svs_nil)
    (svs_one (sv_ret (ev_and (ev_callC C_is_whole (hr.mono (by decide)) (av_cons (ev_ix (xd_ix (hu_of hr)) (ev_var 1) ev_int) av_nil)) (ev_one (ev_chain od_le od_lt ev_int (ev_ix (xd_ix (hu_of hr)) (ev_var 1) ev_int) (ev_op od_sub (ev_callB cd_len B.nb_len bt_len (av_cons (ev_var 0) av_nil)) ev_int)))))))
theorem ok_is_placed {P : Program} {w : World} {K : PySem.W.Frag} {mg : Str → Option Value} {base : Heap} {f : Addr} {fd : FuncData} (F : Fun K "is_placed" "is_placed" s_is_placed f fd) (B : Bn K mg) (C1 : Cal P w K mg base "is_whole" 1 ["thing"] (spR K g_is_whole)) : FnOk P w K mg base CX0 2 f fd ["twists", "thing"] (spR K g_is_placed) := by
  refine fn_ro (T := t_is_placed) F sc_is_placed rfl (by decide) (fun ds kk h => ?_) (b_is_placed B C1) (fun ds kk h => ?_)
  · obtain ⟨l, v, a, rfl, _⟩ := h
    rfl
  · obtain ⟨l, v, a, rfl, k⟩ := h
    simp only [w_is_placed, wSeq, wIf, wOr, wNot, env0, List.map_cons, List.map_nil, List.length_cons, List.length_nil, Nat.zero_add, Nat.reduceAdd, List.cons_append, List.nil_append, wRet, wC, wNext, r_andV, wCall, wCons, wBin, wNil, wChainV, r_var, reduceIte, r_bl, r_tru, r_isi, isiD, r_truB, look, oget_s, r_lenL, r_sub, r_ixT, atI_1, List.getElem?_cons_succ, List.getElem?_cons_zero, r_cmp, r_blOf, r_lenT, r_neI, BEq.rfl, Bool.not_true, Bool.false_eq_true]
    rw [if_neg (by decide)]
    refine ⟨a, rfl, ?_⟩
    simp only [r_blOf, reduceIte]
    have e : (I l).length = l.length := by simp
    unfold plc at k
    by_cases h : 0 ≤ a
    · rw [if_pos (decide_eq_true h), e]
      rwa [show decide (0 ≤ a ∧ a < (l.length : Int) - 1) = decide (a < (l.length : Int) - 1) by simp [h]] at k
    · rw [if_neg (fun z => h (of_decide_eq_true z))]
      rwa [show decide (0 ≤ a ∧ a < (l.length : Int) - 1) = false by simp [h]] at k
noncomputable def g_without_number : GA := fun ds k => ∃ (pre rs : List Int) (n r m : Int), ds = [.lst (I pre ++ .int n :: .int r :: I rs), .int pre.length, .int m] ∧ pre.length + rs.length ≤ 20 ∧ k (.lst (I (adj pre m ++ (r + m) :: rs)))
noncomputable abbrev s_without_number : Stmt := top 18
theorem sc_without_number : FnScope ["twists", "at", "many", "told"] ["twists", "at", "many"] (defScope s_without_number) := ⟨rfl, rfl, rfl, by decide +kernel, rfl, by decide +kernel, by decide +kernel⟩
noncomputable def t_without_number : Tg := { own := fun i => i == 3, io := [] }
noncomputable def w_without_number : WS := (wSeq (wSet 3 (wCall dList (wCons (wVar 0) wNil)))
  (wSeq (wSetIx 3 (wBin dAddT (wBin dIx (wVar 3) (wBin dAddT (wVar 1) (wC (.int 1)))) (wVar 2)) (wBin dAddT (wVar 1) (wC (.int 1))))
  (wSeq (wIf (wBl (wBin (dCmp fun i j => decide (j < i)) (wVar 1) (wC (.int 0)))) (wSetIx 3 (wBin dAddT (wBin dIx (wVar 3) (wBin dSub (wVar 1) (wC (.int 1)))) (wVar 2)) (wBin dSub (wVar 1) (wC (.int 1)))) wNext)
  (wSeq (wDrop (wMt 3 "list" gPopAt (wCons (wLift (wVar 1)) wNil)))
  (wRetS 3)))))
theorem b_without_number {P : Program} {w : World} {K : PySem.W.Frag} {mg : Str → Option Value} {base : Heap} {f : Addr} (B : Bn K mg) : ∀ (cdv : Value) (A : Around) (outer : List PySem.Env) (s : Shared) (H : Hp) (E : XK), Room 0 (A.deeper (envOfC "without_number" (defScope s_without_number) s.heap.objs.size f cdv)) → SVs (cxOf CX0 P w K mg base ["twists", "at", "many", "told"] "without_number" (defScope s_without_number) f cdv A outer s H E).nox t_without_number (defBody s_without_number) w_without_number := fun cdv A outer s H E hr =>
    (svs_cons (sv_set (i := 3) (ev_callTy cd_list B.nb_list bt_list (av_cons (ev_var 0) av_nil)) sc_without_number.nd)
    (svs_cons (sv_setIx (i := 3) (hu_of hr) (ev_op od_addT (ev_ix (xd_ix (hu_of hr)) (ev_var 3) (ev_op od_addT (ev_var 1) ev_int)) (ev_var 2)) (ev_op od_addT (ev_var 1) ev_int))
    (svs_cons (sv_if (tv_cmp od_gt (ev_var 1) ev_int) (svs_one (sv_setIx (i := 3) (hu_of hr) (ev_op od_addT (ev_ix (xd_ix (hu_of hr)) (ev_var 3) (ev_op od_sub (ev_var 1) ev_int)) (ev_var 2)) (ev_op od_sub (ev_var 1) ev_int))) svs_nil)
    (svs_cons (sv_expr (ev_mt (i := 3) md_popAt PySem.F.plainAttrs_list PySem.F.slot_list_pop PySem.F.type_list_pop (av_cons (ev_lift (ev_var 1)) av_nil)))
    (svs_one (sv_retS (i := 3)))))))
theorem ok_without_number {P : Program} {w : World} {K : PySem.W.Frag} {mg : Str → Option Value} {base : Heap} {f : Addr} {fd : FuncData} (F : Fun K "without_number" "without_number" s_without_number f fd) (B : Bn K mg) : FnOk P w K mg base CX0 1 f fd ["twists", "at", "many"] (spR K g_without_number) := by
  refine fn_ro (T := t_without_number) F sc_without_number rfl (by decide) (fun ds kk h => ?_) (b_without_number B) (fun ds kk h => ?_)
  · obtain ⟨pre, rs, n, r, m, rfl, _⟩ := h
    rfl
  · obtain ⟨pre, rs, n, r, m, rfl, hl, k⟩ := h
    have e1 : (pre.length : Int) = ((I pre).length : Int) := by simp
    simp only [w_without_number, wSeq, wSet, wCall, wCons, env0, e1, List.map_cons, List.map_nil, List.length_cons, List.length_nil, Nat.zero_add, Nat.reduceAdd, List.replicate, List.cons_append, List.nil_append, wNil, wSetIx, wBin, wC, wIf, wDrop, wMt, wLift, wRetS, r_var, wNext, r_bl, look, List.set_cons_succ, List.set_cons_zero, Option.isSome_some, oget_s, D.pure, true_and, r_sub, r_cmp, r_blOf, r2_add, r_listL, pu, r_setL, ix1, List.length_set, r_tyL, BEq.rfl, r_popAt, Int.reducePow, Int.reduceNeg, r_ixL, set1, at1]
    have b1 : (-9223372036854775808 : Int) ≤ ((I pre).length : Int) := by omega
    have b2 : ((I pre).length : Int) < 9223372036854775808 := by simp; omega
    rcases List.eq_nil_or_concat pre with rfl | ⟨bs, z, rfl⟩
    · rw [if_neg (by decide)]
      refine ⟨b1, b2, ?_⟩
      rw [sq0]
      simp only [oget_s, ge0, ers, D.pure, true_and]
      exact k
    · rw [if_pos (decide_eq_true (by simp))]
      rw [List.concat_eq_append] at *
      have e2 : I (bs ++ [z]) = I bs ++ [.int z] := by simp
      rw [adj_snoc] at k
      simp only [e2, atm, ixm, Int.reduceNeg, oget_s, r2_add, D.pure, true_and]
      rw [setm]
      have b3 : (-9223372036854775808 : Int) ≤ ((I bs ++ [D.int z]).length : Int) := by omega
      have b4 : ((I bs ++ [D.int z]).length : Int) < 9223372036854775808 := by rw [e2] at b2; exact b2
      refine ⟨b3, b4, ?_⟩
      rw [sq0]
      have e3 : (I bs ++ [D.int z]).length = (I bs ++ [D.int (z + m)]).length := by simp
      rw [e3]
      simp only [oget_s, ge0, ers, D.pure, true_and]
      rw [show I (bs ++ [z + m] ++ (r + m) :: rs) = I bs ++ [D.int (z + m)] ++ D.int (r + m) :: I rs by simp] at k
      exact k
noncomputable def nou (pre rs : List Int) (n r : Int) : Bool := decide (n = 0 ∧ (pre ≠ [] ∨ (r = 0 ∧ rs ≠ [])))
noncomputable def g_can_be_nought : GA := fun ds k => ∃ (pre rs : List Int) (n r : Int), ds = [.lst (I pre ++ .int n :: .int r :: I rs), .int pre.length] ∧ k (.bl (nou pre rs n r))
noncomputable abbrev s_can_be_nought : Stmt := top 19
theorem sc_can_be_nought : FnScope ["twists", "at"] ["twists", "at"] (defScope s_can_be_nought) := ⟨rfl, rfl, rfl, by decide +kernel, rfl, by decide +kernel, by decide +kernel⟩
noncomputable def t_can_be_nought : Tg := { own := fun i => false, io := [] }
noncomputable def w_can_be_nought : WS := (wSeq (wIf (wBl (wBin dNe (wBin dIx (wVar 0) (wVar 1)) (wC (.int 0)))) (wRet (wC (.bl false))) wNext)
  (wRet (wOrV (wBin (dCmp fun i j => decide (j < i)) (wVar 1) (wC (.int 0))) (wAndV (wBin dEq (wBin dIx (wVar 0) (wC (.int 1))) (wC (.int 0))) (wBin (dCmp fun i j => decide (j < i)) (wCall dLen (wCons (wVar 0) wNil)) (wC (.int 2)))))))
theorem b_can_be_nought {P : Program} {w : World} {K : PySem.W.Frag} {mg : Str → Option Value} {base : Heap} {f : Addr} (B : Bn K mg) : ∀ (cdv : Value) (A : Around) (outer : List PySem.Env) (s : Shared) (H : Hp) (E : XK), Room 0 (A.deeper (envOfC "can_be_nought" (defScope s_can_be_nought) s.heap.objs.size f cdv)) → SVs (cxOf CX0 P w K mg base ["twists", "at"] "can_be_nought" (defScope s_can_be_nought) f cdv A outer s H E).nox t_can_be_nought (defBody s_can_be_nought) w_can_be_nought := fun cdv A outer s H E hr =>
    (svs_cons (sv_if (tv_cmp (od_ne hr.units) (ev_ix (xd_ix (hu_of hr)) (ev_var 0) (ev_var 1)) ev_int) (svs_one (sv_ret ev_bl)) svs_nil)
    (svs_one (sv_ret (ev_or (ev_cmp od_gt (ev_var 1) ev_int) (ev_one (ev_and (ev_cmp (od_eq hr.units) (ev_ix (xd_ix (hu_of hr)) (ev_var 0) ev_int) ev_int) (ev_one (ev_cmp od_gt (ev_callB cd_len B.nb_len bt_len (av_cons (ev_var 0) av_nil)) ev_int))))))))
theorem ok_can_be_nought {P : Program} {w : World} {K : PySem.W.Frag} {mg : Str → Option Value} {base : Heap} {f : Addr} {fd : FuncData} (F : Fun K "can_be_nought" "can_be_nought" s_can_be_nought f fd) (B : Bn K mg) : FnOk P w K mg base CX0 1 f fd ["twists", "at"] (spR K g_can_be_nought) := by
  refine fn_ro (T := t_can_be_nought) F sc_can_be_nought rfl (by decide) (fun ds kk h => ?_) (b_can_be_nought B) (fun ds kk h => ?_)
  · obtain ⟨pre, rs, n, r, rfl, _⟩ := h
    rfl
  · obtain ⟨pre, rs, n, r, rfl, k⟩ := h
    have e1 : (pre.length : Int) = ((I pre).length : Int) := by simp
    simp only [w_can_be_nought, wSeq, wIf, env0, e1, List.map_cons, List.map_nil, List.length_cons, List.length_nil, Nat.zero_add, Nat.reduceAdd, List.cons_append, List.nil_append, wRet, wC, wNext, r_orV, wBin, r_andV, wCall, wCons, wNil, r_var, r_bl, look, oget_s, r_lenL, r_cmp, r_ixL, atI_1, r_blOf, at0, r_neI]
    unfold nou at k
    by_cases hn : n = 0
    · rw [if_neg (by simp [hn])]
      rcases List.eq_nil_or_concat pre with rfl | ⟨bs, z, rfl⟩
      · rw [if_neg (by decide)]
        show dEq (D.int r) (D.int 0) fun d => blOf d fun c => if c = true then kk (D.bl (decide (2 < ((I [] ++ D.int n :: D.int r :: I rs).length : Int)))) else kk (D.bl false)
        simp only [r_eqI, r_blOf]
        by_cases hr : r = 0
        · rw [if_pos (decide_eq_true hr)]
          rwa [show decide (n = 0 ∧ (([] : List Int) ≠ [] ∨ (r = 0 ∧ rs ≠ []))) = decide (2 < ((I [] ++ D.int n :: D.int r :: I rs).length : Int)) by
            cases rs <;> simp [hn, hr]; omega] at k
        · rw [if_neg (fun z => hr (of_decide_eq_true z))]
          rwa [show decide (n = 0 ∧ (([] : List Int) ≠ [] ∨ (r = 0 ∧ rs ≠ []))) = false by simp [hr]] at k
      · rw [if_pos (decide_eq_true (by simp))]
        rwa [show decide (n = 0 ∧ (bs.concat z ≠ [] ∨ (r = 0 ∧ rs ≠ []))) = true by simp [hn]] at k
    · rw [if_pos (by simp [hn])]
      rwa [show decide (n = 0 ∧ (pre ≠ [] ∨ (r = 0 ∧ rs ≠ []))) = false by simp [hn]] at k
noncomputable def wno (pre rs : List Int) (r : Int) : List Int := if pre = [] then rs else adj pre r ++ rs
noncomputable def g_without_nought : GA := fun ds k => ∃ (pre rs : List Int) (n r : Int), ds = [.lst (I pre ++ .int n :: .int r :: I rs), .int pre.length] ∧ pre.length + rs.length ≤ 20 ∧ k (.lst (I (wno pre rs r)))
noncomputable abbrev s_without_nought : Stmt := top 20
theorem sc_without_nought : FnScope ["twists", "at"] ["twists", "at"] (defScope s_without_nought) := ⟨rfl, rfl, rfl, by decide +kernel, rfl, by decide +kernel, by decide +kernel⟩
noncomputable def t_without_nought : Tg := { own := fun i => false, io := [] }
noncomputable def w_without_nought : WS := (wSeq (wIf (wBl (wBin dEq (wVar 1) (wC (.int 0)))) (wRet (wSlT (wVar 0) (wSome (wC (.int 2))) wNone)) wNext)
  (wRet (wBin dAddT (wBin dAddT (wSlT (wVar 0) wNone (wSome (wBin dSub (wVar 1) (wC (.int 1))))) (wLst (wCons (wBin dAddT (wBin dIx (wVar 0) (wBin dSub (wVar 1) (wC (.int 1)))) (wBin dIx (wVar 0) (wBin dAddT (wVar 1) (wC (.int 1))))) wNil))) (wSlT (wVar 0) (wSome (wBin dAddT (wVar 1) (wC (.int 2)))) wNone))))
theorem b_without_nought {P : Program} {w : World} {K : PySem.W.Frag} {mg : Str → Option Value} {base : Heap} {f : Addr} (B : Bn K mg) : ∀ (cdv : Value) (A : Around) (outer : List PySem.Env) (s : Shared) (H : Hp) (E : XK), Room 0 (A.deeper (envOfC "without_nought" (defScope s_without_nought) s.heap.objs.size f cdv)) → SVs (cxOf CX0 P w K mg base ["twists", "at"] "without_nought" (defScope s_without_nought) f cdv A outer s H E).nox t_without_nought (defBody s_without_nought) w_without_nought := fun cdv A outer s H E hr =>
    (svs_cons (sv_if (tv_cmp (od_eq hr.units) (ev_var 1) ev_int) (svs_one (sv_ret (ev_slT (ev_var 0) (ov_some ev_int) ov_none))) svs_nil)
    (svs_one (sv_ret (ev_op od_addT (ev_op od_addT (ev_slT (ev_var 0) ov_none (ov_some (ev_op od_sub (ev_var 1) ev_int))) (ev_lst (av_cons (ev_op od_addT (ev_ix (xd_ix (hu_of hr)) (ev_var 0) (ev_op od_sub (ev_var 1) ev_int)) (ev_ix (xd_ix (hu_of hr)) (ev_var 0) (ev_op od_addT (ev_var 1) ev_int))) av_nil))) (ev_slT (ev_var 0) (ov_some (ev_op od_addT (ev_var 1) ev_int)) ov_none)))))
theorem ok_without_nought {P : Program} {w : World} {K : PySem.W.Frag} {mg : Str → Option Value} {base : Heap} {f : Addr} {fd : FuncData} (F : Fun K "without_nought" "without_nought" s_without_nought f fd) (B : Bn K mg) : FnOk P w K mg base CX0 1 f fd ["twists", "at"] (spR K g_without_nought) := by
  refine fn_ro (T := t_without_nought) F sc_without_nought rfl (by decide) (fun ds kk h => ?_) (b_without_nought B) (fun ds kk h => ?_)
  · obtain ⟨pre, rs, n, r, rfl, _⟩ := h
    rfl
  · obtain ⟨pre, rs, n, r, rfl, hl, k⟩ := h
    have e1 : (pre.length : Int) = ((I pre).length : Int) := by simp
    simp only [w_without_nought, wSeq, wIf, env0, e1, List.map_cons, List.map_nil, List.length_cons, List.length_nil, Nat.zero_add, Nat.reduceAdd, List.cons_append, List.nil_append, wRet, wSlT, wNone, r_some, wC, r_intOf, r_var, wNext, wBin, wLst, wCons, wNil, sz1, true_and, r_bl, look, oget_s, r2_slL, pu, r2_add, cut2, r_ixL, at1, r_sub, r2_addL, pureL, Bool.and_true, pI, r_eqI, r_blOf]
    unfold wno at k
    rcases List.eq_nil_or_concat pre with rfl | ⟨bs, z, rfl⟩
    · rw [if_pos (by decide)]
      rw [if_pos rfl] at k
      have := cut2 (P := ([] : List D)) (x := .int n) (y := .int r) (R := I rs)
      rw [show (([] : List D).length : Int) + 2 = 2 by rfl] at this
      rw [show I [] = ([] : List D) by rfl, this]
      exact k
    · rw [if_neg (fun z => by have := of_decide_eq_true z; simp at this; omega)]
      rw [if_neg (by simp), List.concat_eq_append, adj_snoc] at k
      rw [List.concat_eq_append] at hl ⊢
      have e2 : I (bs ++ [z]) = I bs ++ [.int z] := by simp
      simp only [e2, atm, cutm, oget_s, r2_add, D.pure, true_and]
      simp at hl
      refine ⟨pI, Nat.le_of_lt (small (by simp; omega)), pc pI rfl, Nat.le_of_lt (small (by simp; omega)), ?_⟩
      rw [show I (bs ++ [z + r] ++ rs) = I bs ++ [D.int (z + r)] ++ I rs by simp] at k
      exact k
noncomputable def g_split_number : GA := fun ds k => ∃ (pre rs : List Int) (n r : Int), ds = [.lst (I pre ++ .int n :: .int r :: I rs), .int pre.length] ∧ pre.length + rs.length ≤ 20 ∧ k (.lst (I (pre ++ [n + 1, 1, r + 1] ++ rs)))
noncomputable abbrev s_split_number : Stmt := top 21
theorem sc_split_number : FnScope ["twists", "at"] ["twists", "at"] (defScope s_split_number) := ⟨rfl, rfl, rfl, by decide +kernel, rfl, by decide +kernel, by decide +kernel⟩
noncomputable def t_split_number : Tg := { own := fun i => false, io := [] }
noncomputable def w_split_number : WS := (wRet (wBin dAddT (wBin dAddT (wSlT (wVar 0) wNone (wSome (wVar 1))) (wLst (wCons (wBin dAddT (wBin dIx (wVar 0) (wVar 1)) (wC (.int 1))) (wCons (wC (.int 1)) (wCons (wBin dAddT (wBin dIx (wVar 0) (wBin dAddT (wVar 1) (wC (.int 1)))) (wC (.int 1))) wNil))))) (wSlT (wVar 0) (wSome (wBin dAddT (wVar 1) (wC (.int 2)))) wNone)))
theorem b_split_number {P : Program} {w : World} {K : PySem.W.Frag} {mg : Str → Option Value} {base : Heap} {f : Addr} (B : Bn K mg) : ∀ (cdv : Value) (A : Around) (outer : List PySem.Env) (s : Shared) (H : Hp) (E : XK), Room 0 (A.deeper (envOfC "split_number" (defScope s_split_number) s.heap.objs.size f cdv)) → SVs (cxOf CX0 P w K mg base ["twists", "at"] "split_number" (defScope s_split_number) f cdv A outer s H E).nox t_split_number (defBody s_split_number) w_split_number := fun cdv A outer s H E hr =>
    (svs_one (sv_ret (ev_op od_addT (ev_op od_addT (ev_slT (ev_var 0) ov_none (ov_some (ev_var 1))) (ev_lst (av_cons (ev_op od_addT (ev_ix (xd_ix (hu_of hr)) (ev_var 0) (ev_var 1)) ev_int) (av_cons ev_int (av_cons (ev_op od_addT (ev_ix (xd_ix (hu_of hr)) (ev_var 0) (ev_op od_addT (ev_var 1) ev_int)) ev_int) av_nil))))) (ev_slT (ev_var 0) (ov_some (ev_op od_addT (ev_var 1) ev_int)) ov_none))))
theorem ok_split_number {P : Program} {w : World} {K : PySem.W.Frag} {mg : Str → Option Value} {base : Heap} {f : Addr} {fd : FuncData} (F : Fun K "split_number" "split_number" s_split_number f fd) (B : Bn K mg) : FnOk P w K mg base CX0 1 f fd ["twists", "at"] (spR K g_split_number) := by
  refine fn_ro (T := t_split_number) F sc_split_number rfl (by decide) (fun ds kk h => ?_) (b_split_number B) (fun ds kk h => ?_)
  · obtain ⟨pre, rs, n, r, rfl, _⟩ := h
    rfl
  · obtain ⟨pre, rs, n, r, rfl, hl, k⟩ := h
    have e1 : (pre.length : Int) = ((I pre).length : Int) := by simp
    simp only [w_split_number, wRet, wBin, wSlT, env0, e1, List.map_cons, List.map_nil, List.length_cons, List.length_nil, Nat.zero_add, Nat.reduceAdd, List.cons_append, List.nil_append, wNone, wLst, wCons, wC, wNil, sz3, r_some, r_var, true_and, look, oget_s, r2_add, r_intOf, r2_slL, pu, cut2, r_ixL, at1, at0, cutP, r2_addL, pI, pureL, D.pure, Bool.and_self]
    rw [show I (pre ++ [n + 1, 1, r + 1] ++ rs) = I pre ++ [D.int (n + 1), D.int 1, D.int (r + 1)] ++ I rs by simp] at k
    exact ⟨Nat.le_of_lt (small (by simp; omega)), pc pI rfl, Nat.le_of_lt (small (by simp; omega)), k⟩
end K68
set_option Elab.async false
set_option linter.all false
set_option maxRecDepth 100000
set_option maxHeartbeats 4000000
namespace K68
open PySem PySem.Spec L2 PV
open PyProof.Rows (envOfC)
open V68
noncomputable abbrev w1 : Str := Str.ofString "one"
noncomputable abbrev w2 : Str := Str.ofString "less"
noncomputable abbrev w3 : Str := Str.ofString "nought"
noncomputable abbrev w4 : Str := Str.ofString "loose"
noncomputable abbrev w5 : Str := Str.ofString "split"
noncomputable def stp (pre rs : List Int) (n r : Int) (w : Str) : Option (List Int × Int) :=
  if w = w1 then (if n = 1 then some (adj pre (-1) ++ (r + -1) :: rs, if pre = [] then 0 else 1) else none)
  else if w = w2 then (if n = -1 then some (adj pre 1 ++ (r + 1) :: rs, if pre = [] then 0 else -1) else none)
  else if w = w3 then (if nou pre rs n r = true then some (wno pre rs r, 0) else none)
  else if w = w4 then (if pre = [] ∧ n = 0 then some (0 :: 0 :: rs, r) else none)
  else if w = w5 then (if n < -1 then some (pre ++ [n + 1, 1, r + 1] ++ rs, -1) else none)
  else none
noncomputable def stpI (l : List Int) (w : Str) (a : Int) : Option (List Int × Int) := if plc l a = true then stp (l.take a.toNat) (l.drop (a.toNat + 2)) (l.getD a.toNat 0) (l.getD (a.toNat + 1) 0) w else none
theorem parts {l : List Int} {a : Int} (h : plc l a = true) : ∃ pre rs n r, l = pre ++ n :: r :: rs ∧ a = (pre.length : Int) ∧ ∀ w, stpI l w a = stp pre rs n r w := by
  have h0 : 0 ≤ a ∧ a < (l.length : Int) - 1 := of_decide_eq_true h
  obtain ⟨k, rfl⟩ := Int.eq_ofNat_of_zero_le h0.1
  have hk : k + 1 < l.length := by omega
  have e : l = l.take k ++ l.getD k 0 :: l.getD (k + 1) 0 :: l.drop (k + 2) := by
    conv => lhs; rw [← List.take_append_drop k l]
    congr 1
    rw [List.drop_eq_getElem_cons (by omega), List.drop_eq_getElem_cons hk]
    simp [List.getD_eq_getElem?_getD, List.getElem?_eq_getElem (show k < l.length by omega), List.getElem?_eq_getElem hk]
  refine ⟨l.take k, l.drop (k + 2), l.getD k 0, l.getD (k + 1) 0, e, by rw [List.length_take]; omega, fun w => ?_⟩
  unfold stpI
  rw [if_pos h, Int.toNat_natCast]
theorem none_of {l : List Int} {a : Int} {w : Str} (h : plc l a = false) : stpI l w a = none := by unfold stpI; rw [if_neg (by rw [h]; decide)]
theorem words (w : Str) : w = w1 ∨ w = w2 ∨ w = w3 ∨ w = w4 ∨ w = w5 ∨ (w ≠ w1 ∧ w ≠ w2 ∧ w ≠ w3 ∧ w ≠ w4 ∧ w ≠ w5) := by
  by_cases h1 : w = w1
  · exact .inl h1
  by_cases h2 : w = w2
  · exact .inr (.inl h2)
  by_cases h3 : w = w3
  · exact .inr (.inr (.inl h3))
  by_cases h4 : w = w4
  · exact .inr (.inr (.inr (.inl h4)))
  by_cases h5 : w = w5
  · exact .inr (.inr (.inr (.inr (.inl h5))))
  · exact .inr (.inr (.inr (.inr (.inr ⟨h1, h2, h3, h4, h5⟩))))
theorem d12 : decide (w1 = w2) = false := by decide
theorem ite_dec {c : Prop} [Decidable c] {A B : Prop} (h1 : c → A) (h2 : ¬ c → B) : if decide c = true then A else B := by
  by_cases h : c
  · rw [if_pos (decide_eq_true h)]; exact h1 h
  · rw [if_neg (fun z => h (of_decide_eq_true z))]; exact h2 h
noncomputable def g_step : GX := fun ds k kx => ∃ (l : List Int) (w : Str) (a : Int), ds = [.lst (I l), .tup [.str w, .int a]] ∧ l.length ≤ 13 ∧ match stpI l w a with
  | some (q, v) => k (.tup [.lst (I q), .int v])
  | none => kx (.obj (Str.ofString "NoStep") [])
noncomputable abbrev s_step : Stmt := top 22
theorem sc_step : FnScope ["twists", "step", "word", "at"] ["twists", "step"] (defScope s_step) := ⟨rfl, rfl, rfl, by decide +kernel, rfl, by decide +kernel, by decide +kernel⟩
noncomputable def t_step : Tg := { own := fun i => i == 2 || i == 3, io := [] }
noncomputable def w_step : WS := (wSeq (wIf (wTru (wCall g_is_placed (wCons (wVar 0) (wCons (wVar 1) wNil)))) (wSeq (wSet 2 (wLift (wBin dIx (wVar 1) (wC (.int 0)))))
  (wSeq (wSet 3 (wLift (wBin dIx (wVar 1) (wC (.int 1)))))
  (wSeq (wIf (wAnd (wBl (wBin dEq (wVar 2) (wC (.str (Str.ofString "one"))))) (wBl (wBin dEq (wBin dIx (wVar 0) (wVar 3)) (wC (.int 1))))) (wRet (wTup (wCons (wCall g_without_number (wCons (wVar 0) (wCons (wVar 3) (wCons (wUn dNeg (wC (.int 1))) wNil)))) (wCons (wIfE (wBl (wBin dEq (wVar 3) (wC (.int 0)))) (wC (.int 0)) (wC (.int 1))) wNil)))) wNext)
  (wSeq (wIf (wAnd (wBl (wBin dEq (wVar 2) (wC (.str (Str.ofString "less"))))) (wBl (wBin dEq (wBin dIx (wVar 0) (wVar 3)) (wUn dNeg (wC (.int 1)))))) (wRet (wTup (wCons (wCall g_without_number (wCons (wVar 0) (wCons (wVar 3) (wCons (wC (.int 1)) wNil)))) (wCons (wIfE (wBl (wBin dEq (wVar 3) (wC (.int 0)))) (wC (.int 0)) (wUn dNeg (wC (.int 1)))) wNil)))) wNext)
  (wSeq (wIf (wAnd (wBl (wBin dEq (wVar 2) (wC (.str (Str.ofString "nought"))))) (wTru (wCall g_can_be_nought (wCons (wVar 0) (wCons (wVar 3) wNil))))) (wRet (wTup (wCons (wCall g_without_nought (wCons (wVar 0) (wCons (wVar 3) wNil))) (wCons (wC (.int 0)) wNil)))) wNext)
  (wSeq (wIf (wAnd (wBl (wBin dEq (wVar 2) (wC (.str (Str.ofString "loose"))))) (wAnd (wBl (wBin dEq (wVar 3) (wC (.int 0)))) (wBl (wBin dEq (wBin dIx (wVar 0) (wC (.int 0))) (wC (.int 0)))))) (wRet (wTup (wCons (wBin dAddT (wLst (wCons (wC (.int 0)) (wCons (wC (.int 0)) wNil))) (wSlT (wVar 0) (wSome (wC (.int 2))) wNone)) (wCons (wLift (wBin dIx (wVar 0) (wC (.int 1)))) wNil)))) wNext)
  (wIf (wAnd (wBl (wBin dEq (wVar 2) (wC (.str (Str.ofString "split"))))) (wBl (wBin (dCmp fun i j => decide (i < j)) (wBin dIx (wVar 0) (wVar 3)) (wUn dNeg (wC (.int 1)))))) (wRet (wTup (wCons (wCall g_split_number (wCons (wVar 0) (wCons (wVar 3) wNil))) (wCons (wUn dNeg (wC (.int 1))) wNil)))) wNext))))))) wNext)
  (wRaise (Str.ofString "NoStep") (wCons (wC (.str (Str.ofString "it is no step of this list"))) wNil)))
theorem b_step {P : Program} {w : World} {K : PySem.W.Frag} {mg : Str → Option Value} {base : Heap} {f : Addr} (B : Bn K mg) (C_is_placed : Cal P w K mg base "is_placed" 2 ["twists", "thing"] (spR K g_is_placed)) (C_without_number : Cal P w K mg base "without_number" 1 ["twists", "at", "many"] (spR K g_without_number)) (C_can_be_nought : Cal P w K mg base "can_be_nought" 1 ["twists", "at"] (spR K g_can_be_nought)) (C_without_nought : Cal P w K mg base "without_nought" 1 ["twists", "at"] (spR K g_without_nought)) (C_split_number : Cal P w K mg base "split_number" 1 ["twists", "at"] (spR K g_split_number)) : ∀ (cdv : Value) (A : Around) (outer : List PySem.Env) (s : Shared) (H : Hp) (E : XK) (XE : D → St → Hp → Prop), Room 2 (A.deeper (envOfC "step" (defScope s_step) s.heap.objs.size f cdv)) → (∀ x C, atN K x C → RaiseOk (cxOf (CXE P w base) P w K mg base ["twists", "step", "word", "at"] "step" (defScope s_step) f cdv A outer s H E) ⟨t_step.own, t_step.io, XE⟩ x C) → SVs (cxOf (CXE P w base) P w K mg base ["twists", "step", "word", "at"] "step" (defScope s_step) f cdv A outer s H E) ⟨t_step.own, t_step.io, XE⟩ (defBody s_step) w_step := fun cdv A outer s H E XE hr hX =>
    (svs_cons (sv_if (tv_tru (ev_callC C_is_placed (hr.mono (by decide)) (av_cons (ev_var 0) (av_cons (ev_var 1) av_nil)))) (svs_cons (sv_set (i := 2) (ev_lift (ev_ix (xd_ix (hu_of hr)) (ev_var 1) ev_int)) sc_step.nd (hio := List.not_mem_nil))
    (svs_cons (sv_set (i := 3) (ev_lift (ev_ix (xd_ix (hu_of hr)) (ev_var 1) ev_int)) sc_step.nd (hio := List.not_mem_nil))
    (svs_cons (sv_if (tv_bool (bv_and (tv_cmp (od_eq hr.units) (ev_var 2) ev_str) (bv_and1 (tv_cmp (od_eq hr.units) (ev_ix (xd_ix (hu_of hr)) (ev_var 0) (ev_var 3)) ev_int)))) (svs_one (sv_ret (ev_tup (av_cons (ev_callC C_without_number (hr.mono (by decide)) (av_cons (ev_var 0) (av_cons (ev_var 3) (av_cons (ev_un ud_neg ev_int) av_nil)))) (av_cons (ev_if (tv_cmp (od_eq hr.units) (ev_var 3) ev_int) ev_int ev_int) av_nil))))) svs_nil)
    (svs_cons (sv_if (tv_bool (bv_and (tv_cmp (od_eq hr.units) (ev_var 2) ev_str) (bv_and1 (tv_cmp (od_eq hr.units) (ev_ix (xd_ix (hu_of hr)) (ev_var 0) (ev_var 3)) (ev_un ud_neg ev_int))))) (svs_one (sv_ret (ev_tup (av_cons (ev_callC C_without_number (hr.mono (by decide)) (av_cons (ev_var 0) (av_cons (ev_var 3) (av_cons ev_int av_nil)))) (av_cons (ev_if (tv_cmp (od_eq hr.units) (ev_var 3) ev_int) ev_int (ev_un ud_neg ev_int)) av_nil))))) svs_nil)
    (svs_cons (sv_if (tv_bool (bv_and (tv_cmp (od_eq hr.units) (ev_var 2) ev_str) (bv_and1 (tv_tru (ev_callC C_can_be_nought (hr.mono (by decide)) (av_cons (ev_var 0) (av_cons (ev_var 3) av_nil))))))) (svs_one (sv_ret (ev_tup (av_cons (ev_callC C_without_nought (hr.mono (by decide)) (av_cons (ev_var 0) (av_cons (ev_var 3) av_nil))) (av_cons ev_int av_nil))))) svs_nil)
    (svs_cons (sv_if (tv_bool (bv_and (tv_cmp (od_eq hr.units) (ev_var 2) ev_str) (bv_and (tv_cmp (od_eq hr.units) (ev_var 3) ev_int) (bv_and1 (tv_cmp (od_eq hr.units) (ev_ix (xd_ix (hu_of hr)) (ev_var 0) ev_int) ev_int))))) (svs_one (sv_ret (ev_tup (av_cons (ev_op od_addT (ev_lst (av_cons ev_int (av_cons ev_int av_nil))) (ev_slT (ev_var 0) (ov_some ev_int) ov_none)) (av_cons (ev_lift (ev_ix (xd_ix (hu_of hr)) (ev_var 0) ev_int)) av_nil))))) svs_nil)
    (svs_one (sv_if (tv_bool (bv_and (tv_cmp (od_eq hr.units) (ev_var 2) ev_str) (bv_and1 (tv_cmp od_lt (ev_ix (xd_ix (hu_of hr)) (ev_var 0) (ev_var 3)) (ev_un ud_neg ev_int))))) (svs_one (sv_ret (ev_tup (av_cons (ev_callC C_split_number (hr.mono (by decide)) (av_cons (ev_var 0) (av_cons (ev_var 3) av_nil))) (av_cons (ev_un ud_neg ev_int) av_nil))))) svs_nil)))))))) svs_nil)
    (svs_one (sv_raise B.e_NoStep.choose_spec.1 (hX _ _ B.e_NoStep.choose_spec.2) (av_cons ev_str av_nil))))
noncomputable def S5 : WS := (wIf (wAnd (wBl (wBin dEq (wVar 2) (wC (.str (Str.ofString "split"))))) (wBl (wBin (dCmp fun i j => decide (i < j)) (wBin dIx (wVar 0) (wVar 3)) (wUn dNeg (wC (.int 1)))))) (wRet (wTup (wCons (wCall g_split_number (wCons (wVar 0) (wCons (wVar 3) wNil))) (wCons (wUn dNeg (wC (.int 1))) wNil)))) wNext)
noncomputable def S4 : WS := (wSeq (wIf (wAnd (wBl (wBin dEq (wVar 2) (wC (.str (Str.ofString "loose"))))) (wAnd (wBl (wBin dEq (wVar 3) (wC (.int 0)))) (wBl (wBin dEq (wBin dIx (wVar 0) (wC (.int 0))) (wC (.int 0)))))) (wRet (wTup (wCons (wBin dAddT (wLst (wCons (wC (.int 0)) (wCons (wC (.int 0)) wNil))) (wSlT (wVar 0) (wSome (wC (.int 2))) wNone)) (wCons (wLift (wBin dIx (wVar 0) (wC (.int 1)))) wNil)))) wNext)
  S5)
noncomputable def S3 : WS := (wSeq (wIf (wAnd (wBl (wBin dEq (wVar 2) (wC (.str (Str.ofString "nought"))))) (wTru (wCall g_can_be_nought (wCons (wVar 0) (wCons (wVar 3) wNil))))) (wRet (wTup (wCons (wCall g_without_nought (wCons (wVar 0) (wCons (wVar 3) wNil))) (wCons (wC (.int 0)) wNil)))) wNext)
  S4)
noncomputable def S2 : WS := (wSeq (wIf (wAnd (wBl (wBin dEq (wVar 2) (wC (.str (Str.ofString "less"))))) (wBl (wBin dEq (wBin dIx (wVar 0) (wVar 3)) (wUn dNeg (wC (.int 1)))))) (wRet (wTup (wCons (wCall g_without_number (wCons (wVar 0) (wCons (wVar 3) (wCons (wC (.int 1)) wNil)))) (wCons (wIfE (wBl (wBin dEq (wVar 3) (wC (.int 0)))) (wC (.int 0)) (wUn dNeg (wC (.int 1)))) wNil)))) wNext)
  S3)
noncomputable def S1 : WS := (wSeq (wIf (wAnd (wBl (wBin dEq (wVar 2) (wC (.str (Str.ofString "one"))))) (wBl (wBin dEq (wBin dIx (wVar 0) (wVar 3)) (wC (.int 1))))) (wRet (wTup (wCons (wCall g_without_number (wCons (wVar 0) (wCons (wVar 3) (wCons (wUn dNeg (wC (.int 1))) wNil)))) (wCons (wIfE (wBl (wBin dEq (wVar 3) (wC (.int 0)))) (wC (.int 0)) (wC (.int 1))) wNil)))) wNext)
  S2)
theorem step_eqS : w_step = (wSeq (wIf (wTru (wCall g_is_placed (wCons (wVar 0) (wCons (wVar 1) wNil)))) (wSeq (wSet 2 (wLift (wBin dIx (wVar 1) (wC (.int 0)))))
  (wSeq (wSet 3 (wLift (wBin dIx (wVar 1) (wC (.int 1)))))
  S1)) wNext)
  (wRaise (Str.ofString "NoStep") (wCons (wC (.str (Str.ofString "it is no step of this list"))) wNil))) := rfl
section
variable {P : EndsP} {L : List D} {d : D} {v : Str} {a : Int}
theorem st1 (h : v ≠ w1) (g : S2 P [some (.lst L), some d, some (.str v), some (.int a)]) : S1 P [some (.lst L), some d, some (.str v), some (.int a)] := by
  simp only [S1, wSeq, wIf, wAnd, wRet, wTup, wCons, wCall, wUn, wC, wNil, wIfE, List.length_cons, List.length_nil, Nat.zero_add, Nat.reduceAdd, sz2, true_and, r_bl, wBin, r_var, r_neg, Int.reduceNeg, wNext, Bool.false_eq_true, reduceIte, look, oget_s, r_eqI, r_blOf, r_ixL, r_eqS, decide_eq_false h]
  exact g
theorem st2 (h : v ≠ w2) (g : S3 P [some (.lst L), some d, some (.str v), some (.int a)]) : S2 P [some (.lst L), some d, some (.str v), some (.int a)] := by
  simp only [S2, wSeq, wIf, wAnd, wRet, wTup, wCons, wCall, wC, wNil, wIfE, List.length_cons, List.length_nil, Nat.zero_add, Nat.reduceAdd, sz2, true_and, wUn, r_neg, Int.reduceNeg, r_bl, wBin, r_var, wNext, Bool.false_eq_true, reduceIte, look, oget_s, r_eqI, r_blOf, r_ixL, r_eqS, decide_eq_false h]
  exact g
theorem st3 (h : v ≠ w3) (g : S4 P [some (.lst L), some d, some (.str v), some (.int a)]) : S3 P [some (.lst L), some d, some (.str v), some (.int a)] := by
  simp only [S3, wSeq, wIf, wAnd, wRet, wTup, wCons, wCall, wNil, wC, List.length_cons, List.length_nil, Nat.zero_add, Nat.reduceAdd, sz2, true_and, r_var, wNext, r_tru, Bool.false_eq_true, reduceIte, r_bl, wBin, look, oget_s, r_eqS, decide_eq_false h, r_blOf]
  exact g
theorem st4 (h : v ≠ w4) (g : S5 P [some (.lst L), some d, some (.str v), some (.int a)]) : S4 P [some (.lst L), some d, some (.str v), some (.int a)] := by
  simp only [S4, wSeq, wIf, wAnd, wRet, wTup, wCons, wBin, wLst, wC, wNil, List.length_cons, List.length_nil, Nat.zero_add, Nat.reduceAdd, sz2, wSlT, wNone, wLift, true_and, r_var, r_some, r_intOf, wNext, r_bl, Bool.false_eq_true, reduceIte, look, oget_s, r_ixL, atI_1, r2_slL, r2_addL, pureL, D.pure, Bool.and_self, List.cons_append, List.nil_append, atI_0, r_eqI, r_blOf, r_eqS, decide_eq_false h]
  exact g
theorem st5 (h : v ≠ w5) (g : P.nx [some (.lst L), some d, some (.str v), some (.int a)]) : S5 P [some (.lst L), some d, some (.str v), some (.int a)] := by
  simp only [S5, wIf, wAnd, wRet, wTup, wCons, wCall, wNil, wUn, wC, List.length_cons, List.length_nil, Nat.zero_add, Nat.reduceAdd, sz2, true_and, r_neg, Int.reduceNeg, r_var, wNext, r_bl, wBin, Bool.false_eq_true, reduceIte, look, oget_s, r_ixL, r_eqS, decide_eq_false h, r_blOf]
  exact g
end
theorem ok_step {P : Program} {w : World} {K : PySem.W.Frag} {mg : Str → Option Value} {base : Heap} {f : Addr} {fd : FuncData} (F : Fun K "step" "step" s_step f fd) (B : Bn K mg) (C1 : Cal P w K mg base "is_placed" 2 ["twists", "thing"] (spR K g_is_placed)) (C2 : Cal P w K mg base "without_number" 1 ["twists", "at", "many"] (spR K g_without_number)) (C3 : Cal P w K mg base "can_be_nought" 1 ["twists", "at"] (spR K g_can_be_nought)) (C4 : Cal P w K mg base "without_nought" 1 ["twists", "at"] (spR K g_without_nought)) (C5 : Cal P w K mg base "split_number" 1 ["twists", "at"] (spR K g_split_number)) : FnOk P w K mg base (CXE P w base) 3 f fd ["twists", "step"] (spX K g_step) := by
  refine fn_x (T := t_step) F sc_step rfl (by decide) (fun ds kk kx h => ?_) (b_step B C1 C2 C3 C4 C5) (fun ds kk kx h => ?_)
  · obtain ⟨l, v, a, rfl, _⟩ := h
    rfl
  · obtain ⟨l, v, a, rfl, hl, k⟩ := h
    rw [step_eqS]
    simp only [wSeq, wIf, env0, List.map_cons, List.map_nil, List.length_cons, List.length_nil, Nat.zero_add, Nat.reduceAdd, List.replicate, List.cons_append, List.nil_append, wSet, wLift, wBin, wC, r_var, wNext, wRaise, wCons, wNil, r_tru, wCall, look, List.set_cons_succ, List.set_cons_zero, oget_s, r_ixT, atI_1, List.getElem?_cons_succ, List.getElem?_cons_zero, D.pure, true_and, atI_0]
    refine ⟨l, v, a, rfl, ?_⟩
    simp only [r_truB]
    cases hp : plc l a with
    | false =>
      rw [none_of hp] at k
      simp only [Bool.false_eq_true, reduceIte]
      exact ⟨by decide, k⟩
    | true =>
      obtain ⟨pre, rs, n, r, el, ea, est⟩ := parts hp
      rw [est] at k
      subst ea
      have el2 : I l = I pre ++ .int n :: .int r :: I rs := by rw [el]; simp
      have hl2 : pre.length + rs.length ≤ 20 := by rw [el] at hl; simp at hl; omega
      have e1 : (pre.length : Int) = ((I pre).length : Int) := by simp
      simp only [el2, reduceIte]
      have a0 : L2.atI (I pre ++ D.int n :: D.int r :: I rs) (pre.length : Int) = some (.int n) := by rw [e1, at0]
      unfold stp at k
      rcases words v with rfl | rfl | rfl | rfl | rfl | ⟨n1, n2, n3, n4, n5⟩
      · rw [if_pos rfl] at k
        simp only [S1, wSeq, wIf, wAnd, wRet, wTup, wCons, wCall, wUn, wC, wNil, wIfE, List.length_cons, List.length_nil, Nat.zero_add, Nat.reduceAdd, sz2, true_and, r_bl, wBin, r_var, r_neg, Int.reduceNeg, wNext, Bool.false_eq_true, reduceIte, look, oget_s, r_eqI, r_blOf, r_ixL, a0, r_eqS, decide_true]
        refine ite_dec (fun hn => ?_) fun hn => ?_
        · rw [if_pos hn] at k
          refine ⟨pre, rs, n, r, -1, rfl, hl2, ?_⟩
          refine ite_dec (fun hz => ?_) fun hz => ?_
          · rwa [if_pos (List.eq_nil_of_length_eq_zero (by omega))] at k
          · rwa [if_neg (fun z => hz (by rw [z]; rfl))] at k
        · rw [if_neg hn] at k
          exact st2 (by decide) (st3 (by decide) (st4 (by decide) (st5 (by decide) ⟨by decide, k⟩)))
      · rw [if_neg (by decide), if_pos rfl] at k
        refine st1 (by decide) ?_
        simp only [S2, wSeq, wIf, wAnd, wRet, wTup, wCons, wCall, wC, wNil, wIfE, List.length_cons, List.length_nil, Nat.zero_add, Nat.reduceAdd, sz2, true_and, wUn, r_neg, Int.reduceNeg, r_bl, wBin, r_var, wNext, Bool.false_eq_true, reduceIte, look, oget_s, r_eqI, r_blOf, r_ixL, a0, r_eqS, decide_true]
        refine ite_dec (fun hn => ?_) fun hn => ?_
        · rw [if_pos hn] at k
          refine ⟨pre, rs, n, r, 1, rfl, hl2, ?_⟩
          refine ite_dec (fun hz => ?_) fun hz => ?_
          · rwa [if_pos (List.eq_nil_of_length_eq_zero (by omega))] at k
          · rwa [if_neg (fun z => hz (by rw [z]; rfl))] at k
        · rw [if_neg hn] at k
          exact st3 (by decide) (st4 (by decide) (st5 (by decide) ⟨by decide, k⟩))
      · rw [if_neg (by decide), if_neg (by decide), if_pos rfl] at k
        refine st1 (by decide) (st2 (by decide) ?_)
        simp only [S3, wSeq, wIf, wAnd, wRet, wTup, wCons, wCall, wNil, wC, List.length_cons, List.length_nil, Nat.zero_add, Nat.reduceAdd, sz2, true_and, r_var, wNext, r_tru, Bool.false_eq_true, reduceIte, r_bl, wBin, look, oget_s, r_eqS, decide_true, r_blOf]
        refine ⟨pre, rs, n, r, rfl, ?_⟩
        simp only [r_truB]
        cases hq : nou pre rs n r with
        | true =>
          rw [if_pos hq] at k
          simp only [reduceIte]
          exact ⟨pre, rs, n, r, rfl, hl2, k⟩
        | false =>
          rw [if_neg (by rw [hq]; decide)] at k
          simp only [Bool.false_eq_true, reduceIte]
          exact st4 (by decide) (st5 (by decide) ⟨by decide, k⟩)
      · rw [if_neg (by decide), if_neg (by decide), if_neg (by decide), if_pos rfl] at k
        refine st1 (by decide) (st2 (by decide) (st3 (by decide) ?_))
        simp only [S4, wSeq, wIf, wAnd, wRet, wTup, wCons, wBin, wLst, wC, wNil, List.length_cons, List.length_nil, Nat.zero_add, Nat.reduceAdd, sz2, wSlT, wNone, wLift, true_and, r_var, r_some, r_intOf, wNext, r_bl, Bool.false_eq_true, reduceIte, look, oget_s, r_ixL, atI_1, r2_slL, r2_addL, pureL, D.pure, Bool.and_self, List.cons_append, List.nil_append, atI_0, r_eqI, r_blOf, r_eqS, decide_true]
        refine ite_dec (fun hz => ?_) fun hz => ?_
        · obtain rfl : pre = [] := List.eq_nil_of_length_eq_zero (by omega)
          have c2 : cutD (I [] ++ D.int n :: D.int r :: I rs) (some 2) none = I rs := cut2 (P := ([] : List D))
          rw [c2]
          show dEq (D.int n) (D.int 0) fun d => blOf d fun b => if b = true then _ else _
          simp only [List.length_nil, r_eqI, r_blOf]
          refine ite_dec (fun hn => ?_) fun hn => ?_
          · rw [if_pos ⟨rfl, hn⟩] at k
            refine ⟨pu, pI, Nat.le_of_lt (small (by simp; omega)), ?_⟩
            show (D.int r).pure = true ∧ kk (D.tup [D.lst (D.int 0 :: D.int 0 :: I rs), D.int r])
            exact ⟨rfl, k⟩
          · rw [if_neg (fun z => hn z.2)] at k
            exact st5 (by decide) ⟨by decide, k⟩
        · rw [if_neg (fun z => hz (by rw [z.1]; rfl))] at k
          exact st5 (by decide) ⟨by decide, k⟩
      · rw [if_neg (by decide), if_neg (by decide), if_neg (by decide), if_neg (by decide), if_pos rfl] at k
        refine st1 (by decide) (st2 (by decide) (st3 (by decide) (st4 (by decide) ?_)))
        simp only [S5, wIf, wAnd, wRet, wTup, wCons, wCall, wNil, wUn, wC, List.length_cons, List.length_nil, Nat.zero_add, Nat.reduceAdd, sz2, true_and, r_neg, Int.reduceNeg, r_var, wNext, wRaise, r_bl, wBin, Bool.false_eq_true, reduceIte, look, oget_s, r_ixL, a0, r_cmp, r_blOf, r_eqS, decide_true]
        refine ite_dec (fun hn => ?_) fun hn => ?_
        · rw [if_pos hn] at k
          exact ⟨pre, rs, n, r, rfl, hl2, k⟩
        · rw [if_neg hn] at k
          exact ⟨by decide, k⟩
      · rw [if_neg n1, if_neg n2, if_neg n3, if_neg n4, if_neg n5] at k
        exact st1 n1 (st2 n2 (st3 n3 (st4 n4 (st5 n5 ⟨by decide, k⟩))))
theorem in2g {v : Str} {b : Bool} (h : ((w1 == v) || ((w2 == v) || false)) = b) {k : D → Prop} : dIn false (.str v) (.tup [.str w1, .str w2]) k = k (.bl b) := by
  rw [← h]
  simp [dIn, inD, oget]
theorem in1 {k : D → Prop} : dIn false (.str w1) (.tup [.str w1, .str w2]) k = k (.bl true) := in2g (by decide)
theorem in2 {k : D → Prop} : dIn false (.str w2) (.tup [.str w1, .str w2]) k = k (.bl true) := in2g (by decide)
theorem in6 {v : Str} (h1 : v ≠ w1) (h2 : v ≠ w2) {k : D → Prop} : dIn false (.str v) (.tup [.str w1, .str w2]) k = k (.bl false) := in2g (by
  have e1 : (w1 == v) = false := by simpa using fun z => h1 z.symm
  have e2 : (w2 == v) = false := by simpa using fun z => h2 z.symm
  rw [e1, e2]; rfl)
theorem eq9 {l : List Int} : eqOk 9 (.lst (I l)) = true := by
  show eqOks 8 (I l) = true
  exact eqOks_map fun _ _ => rfl
theorem ct {R : List D} {x : D} : cutD (x :: R) (some 1) none = R := by
  have := cut_from (ds := x :: R) (a := 1) (by simp)
  rw [show ((1 : Nat) : Int) = 1 from rfl] at this
  rw [this]; rfl
theorem ixL {P : List D} {z : D} : L2.ixN (P ++ [z]).length (-1) = some P.length := by
  unfold L2.ixN
  rw [if_neg (by decide), if_pos (by simp; omega)]
  congr 1
  simp
  omega
theorem atL {P : List D} {z : D} : L2.atI (P ++ [z]) (-1) = some z := by
  unfold L2.atI
  rw [ixL]
  show (P ++ [z])[P.length]? = some z
  rw [List.getElem?_append_right (Nat.le_refl _), Nat.sub_self]; rfl
theorem setL {P : List D} {z y : D} : (P ++ [z]).set P.length y = P ++ [y] := by
  rw [List.set_append_right _ _ (Nat.le_refl _), Nat.sub_self]; rfl
theorem cutL {ds : List D} {d : D} : cutD (ds ++ [d]) none (some (-1)) = ds := by
  unfold cutD
  have h2 : HT.sIx (ds ++ [d]).length (ds ++ [d]).length (some (-1)) = ds.length := by
    unfold HT.sIx
    simp
    omega
  have h1 : HT.sIx (ds ++ [d]).length 0 none = 0 := by unfold HT.sIx; simp
  rw [h1, h2, List.drop_zero, Nat.sub_zero, List.take_left]
theorem ne_lst {bs : List Int} {z : Int} : D.lst (I bs ++ [D.int z]) ≠ D.lst [] := by simp
noncomputable def rsD : Option (List Int × Int) → D
  | some (q, v) => .tup [.lst (I q), .int v]
  | none => .non
noncomputable def g_law_step : GA := fun ds k => ∃ (l : List Int) (w : Str) (a : Int), ds = [.lst (I l), .str w, .int a] ∧ l.length ≤ 13 ∧ k (rsD (stpI l w a))
noncomputable abbrev s__law_step : Stmt := top 28
theorem sc__law_step : FnScope ["_law_twists_here", "_law_word", "_law_at", "_law_number", "_law_ahead", "_law_rest"] ["_law_twists_here", "_law_word", "_law_at"] (defScope s__law_step) := ⟨rfl, rfl, rfl, by decide +kernel, rfl, by decide +kernel, by decide +kernel⟩
noncomputable def t__law_step : Tg := { own := fun i => i == 3 || i == 4 || i == 5, io := [] }
noncomputable def w__law_step : WS := (wSeq (wIf (wOr (wBl (wBin (dCmp fun i j => decide (i < j)) (wVar 2) (wC (.int 0)))) (wBl (wBin (dCmp fun i j => decide (j ≤ i)) (wBin dAddT (wVar 2) (wC (.int 1))) (wCall dLen (wCons (wVar 0) wNil))))) (wRet (wC .non)) wNext)
  (wSeq (wSet 3 (wLift (wBin dIx (wVar 0) (wVar 2))))
  (wSeq (wSet 4 (wCall dList (wCons (wSlT (wVar 0) wNone (wSome (wVar 2))) wNil)))
  (wSeq (wSet 5 (wCall dList (wCons (wSlT (wVar 0) (wSome (wBin dAddT (wVar 2) (wC (.int 1)))) wNone) wNil)))
  (wSeq (wIf (wAnd (wBl (wBin (dIn false) (wVar 1) (wTup (wCons (wC (.str (Str.ofString "one"))) (wCons (wC (.str (Str.ofString "less"))) wNil))))) (wBl (wBin dEq (wVar 3) (wBin dIx (wLst (wCons (wC (.int 1)) (wCons (wUn dNeg (wC (.int 1))) wNil))) (wCall dInt (wCons (wBin dEq (wVar 1) (wC (.str (Str.ofString "less")))) wNil)))))) (wSeq (wSetIx 5 (wBin dSub (wBin dIx (wVar 5) (wC (.int 0))) (wVar 3)) (wC (.int 0)))
  (wSeq (wIf (wBl (wBin dEq (wVar 4) (wLst wNil))) (wRetT 5 (wC (.int 0))) wNext)
  (wSeq (wSetIx 4 (wBin dSub (wBin dIx (wVar 4) (wUn dNeg (wC (.int 1)))) (wVar 3)) (wUn dNeg (wC (.int 1))))
  (wRet (wTup (wCons (wBin dAddT (wVar 4) (wVar 5)) (wCons (wLift (wVar 3)) wNil))))))) wNext)
  (wSeq (wIf (wAnd (wBl (wBin dEq (wVar 1) (wC (.str (Str.ofString "nought"))))) (wAnd (wBl (wBin dEq (wVar 3) (wC (.int 0)))) (wBl (wBin dNe (wVar 4) (wLst wNil))))) (wRet (wTup (wCons (wBin dAddT (wBin dAddT (wSlT (wVar 4) wNone (wSome (wUn dNeg (wC (.int 1))))) (wLst (wCons (wBin dAddT (wBin dIx (wVar 4) (wUn dNeg (wC (.int 1)))) (wBin dIx (wVar 5) (wC (.int 0)))) wNil))) (wSlT (wVar 5) (wSome (wC (.int 1))) wNone)) (wCons (wC (.int 0)) wNil)))) wNext)
  (wSeq (wIf (wAnd (wBl (wBin dEq (wVar 1) (wC (.str (Str.ofString "nought"))))) (wAnd (wBl (wBin dEq (wVar 3) (wC (.int 0)))) (wAnd (wBl (wBin dEq (wBin dIx (wVar 5) (wC (.int 0))) (wC (.int 0)))) (wBl (wBin (dCmp fun i j => decide (j < i)) (wCall dLen (wCons (wVar 5) wNil)) (wC (.int 1))))))) (wRet (wTup (wCons (wSlT (wVar 5) (wSome (wC (.int 1))) wNone) (wCons (wC (.int 0)) wNil)))) wNext)
  (wSeq (wIf (wAnd (wBl (wBin dEq (wVar 1) (wC (.str (Str.ofString "loose"))))) (wAnd (wBl (wBin dEq (wVar 3) (wC (.int 0)))) (wBl (wBin dEq (wVar 4) (wLst wNil))))) (wRet (wTup (wCons (wBin dAddT (wLst (wCons (wC (.int 0)) (wCons (wC (.int 0)) wNil))) (wSlT (wVar 5) (wSome (wC (.int 1))) wNone)) (wCons (wLift (wBin dIx (wVar 5) (wC (.int 0)))) wNil)))) wNext)
  (wSeq (wIf (wAnd (wBl (wBin dEq (wVar 1) (wC (.str (Str.ofString "split"))))) (wBl (wBin (dCmp fun i j => decide (i < j)) (wVar 3) (wUn dNeg (wC (.int 1)))))) (wRet (wTup (wCons (wBin dAddT (wBin dAddT (wVar 4) (wLst (wCons (wBin dAddT (wVar 3) (wC (.int 1))) (wCons (wC (.int 1)) (wCons (wBin dAddT (wBin dIx (wVar 5) (wC (.int 0))) (wC (.int 1))) wNil))))) (wSlT (wVar 5) (wSome (wC (.int 1))) wNone)) (wCons (wUn dNeg (wC (.int 1))) wNil)))) wNext)
  (wRet (wC .non)))))))))))
theorem b__law_step {P : Program} {w : World} {K : PySem.W.Frag} {mg : Str → Option Value} {base : Heap} {f : Addr} (B : Bn K mg) : ∀ (cdv : Value) (A : Around) (outer : List PySem.Env) (s : Shared) (H : Hp) (E : XK), Room 0 (A.deeper (envOfC "_law_step" (defScope s__law_step) s.heap.objs.size f cdv)) → SVs (cxOf CX0 P w K mg base ["_law_twists_here", "_law_word", "_law_at", "_law_number", "_law_ahead", "_law_rest"] "_law_step" (defScope s__law_step) f cdv A outer s H E).nox t__law_step (defBody s__law_step) w__law_step := fun cdv A outer s H E hr =>
    (svs_cons (sv_if (tv_bool (bv_or (tv_cmp od_lt (ev_var 2) ev_int) (bv_or1 (tv_cmp od_ge (ev_op od_addT (ev_var 2) ev_int) (ev_callB cd_len B.nb_len bt_len (av_cons (ev_var 0) av_nil)))))) (svs_one (sv_ret ev_non)) svs_nil)
    (svs_cons (sv_set (i := 3) (ev_lift (ev_ix (xd_ix (hu_of hr)) (ev_var 0) (ev_var 2))) sc__law_step.nd)
    (svs_cons (sv_set (i := 4) (ev_callTy cd_list B.nb_list bt_list (av_cons (ev_slT (ev_var 0) ov_none (ov_some (ev_var 2))) av_nil)) sc__law_step.nd)
    (svs_cons (sv_set (i := 5) (ev_callTy cd_list B.nb_list bt_list (av_cons (ev_slT (ev_var 0) (ov_some (ev_op od_addT (ev_var 2) ev_int)) ov_none) av_nil)) sc__law_step.nd)
    (svs_cons (sv_if (tv_bool (bv_and (tv_cmp (od_in (hu_of hr)) (ev_var 1) (ev_tup (av_cons ev_str (av_cons ev_str av_nil)))) (bv_and1 (tv_cmp (od_eq hr.units) (ev_var 3) (ev_ix (xd_ix (hu_of hr)) (ev_lst (av_cons ev_int (av_cons (ev_un ud_neg ev_int) av_nil))) (ev_callTy cd_int B.nb_int bt_int (av_cons (ev_cmp (od_eq hr.units) (ev_var 1) ev_str) av_nil))))))) (svs_cons (sv_setIx (i := 5) (hu_of hr) (ev_op od_sub (ev_ix (xd_ix (hu_of hr)) (ev_var 5) ev_int) (ev_var 3)) ev_int)
    (svs_cons (sv_if (tv_cmp (od_eq hr.units) (ev_var 4) (ev_lst av_nil)) (svs_one (sv_retT (i := 5) ev_int)) svs_nil)
    (svs_cons (sv_setIx (i := 4) (hu_of hr) (ev_op od_sub (ev_ix (xd_ix (hu_of hr)) (ev_var 4) (ev_un ud_neg ev_int)) (ev_var 3)) (ev_un ud_neg ev_int))
    (svs_one (sv_ret (ev_tup (av_cons (ev_op od_addT (ev_var 4) (ev_var 5)) (av_cons (ev_lift (ev_var 3)) av_nil)))))))) svs_nil)
    (svs_cons (sv_if (tv_bool (bv_and (tv_cmp (od_eq hr.units) (ev_var 1) ev_str) (bv_and (tv_cmp (od_eq hr.units) (ev_var 3) ev_int) (bv_and1 (tv_cmp (od_ne hr.units) (ev_var 4) (ev_lst av_nil)))))) (svs_one (sv_ret (ev_tup (av_cons (ev_op od_addT (ev_op od_addT (ev_slT (ev_var 4) ov_none (ov_some (ev_un ud_neg ev_int))) (ev_lst (av_cons (ev_op od_addT (ev_ix (xd_ix (hu_of hr)) (ev_var 4) (ev_un ud_neg ev_int)) (ev_ix (xd_ix (hu_of hr)) (ev_var 5) ev_int)) av_nil))) (ev_slT (ev_var 5) (ov_some ev_int) ov_none)) (av_cons ev_int av_nil))))) svs_nil)
    (svs_cons (sv_if (tv_bool (bv_and (tv_cmp (od_eq hr.units) (ev_var 1) ev_str) (bv_and (tv_cmp (od_eq hr.units) (ev_var 3) ev_int) (bv_and (tv_cmp (od_eq hr.units) (ev_ix (xd_ix (hu_of hr)) (ev_var 5) ev_int) ev_int) (bv_and1 (tv_cmp od_gt (ev_callB cd_len B.nb_len bt_len (av_cons (ev_var 5) av_nil)) ev_int)))))) (svs_one (sv_ret (ev_tup (av_cons (ev_slT (ev_var 5) (ov_some ev_int) ov_none) (av_cons ev_int av_nil))))) svs_nil)
    (svs_cons (sv_if (tv_bool (bv_and (tv_cmp (od_eq hr.units) (ev_var 1) ev_str) (bv_and (tv_cmp (od_eq hr.units) (ev_var 3) ev_int) (bv_and1 (tv_cmp (od_eq hr.units) (ev_var 4) (ev_lst av_nil)))))) (svs_one (sv_ret (ev_tup (av_cons (ev_op od_addT (ev_lst (av_cons ev_int (av_cons ev_int av_nil))) (ev_slT (ev_var 5) (ov_some ev_int) ov_none)) (av_cons (ev_lift (ev_ix (xd_ix (hu_of hr)) (ev_var 5) ev_int)) av_nil))))) svs_nil)
    (svs_cons (sv_if (tv_bool (bv_and (tv_cmp (od_eq hr.units) (ev_var 1) ev_str) (bv_and1 (tv_cmp od_lt (ev_var 3) (ev_un ud_neg ev_int))))) (svs_one (sv_ret (ev_tup (av_cons (ev_op od_addT (ev_op od_addT (ev_var 4) (ev_lst (av_cons (ev_op od_addT (ev_var 3) ev_int) (av_cons ev_int (av_cons (ev_op od_addT (ev_ix (xd_ix (hu_of hr)) (ev_var 5) ev_int) ev_int) av_nil))))) (ev_slT (ev_var 5) (ov_some ev_int) ov_none)) (av_cons (ev_un ud_neg ev_int) av_nil))))) svs_nil)
    (svs_one (sv_ret ev_non)))))))))))
noncomputable def T5 : WS := (wSeq (wIf (wAnd (wBl (wBin dEq (wVar 1) (wC (.str (Str.ofString "split"))))) (wBl (wBin (dCmp fun i j => decide (i < j)) (wVar 3) (wUn dNeg (wC (.int 1)))))) (wRet (wTup (wCons (wBin dAddT (wBin dAddT (wVar 4) (wLst (wCons (wBin dAddT (wVar 3) (wC (.int 1))) (wCons (wC (.int 1)) (wCons (wBin dAddT (wBin dIx (wVar 5) (wC (.int 0))) (wC (.int 1))) wNil))))) (wSlT (wVar 5) (wSome (wC (.int 1))) wNone)) (wCons (wUn dNeg (wC (.int 1))) wNil)))) wNext)
  (wRet (wC .non)))
noncomputable def T4 : WS := (wSeq (wIf (wAnd (wBl (wBin dEq (wVar 1) (wC (.str (Str.ofString "loose"))))) (wAnd (wBl (wBin dEq (wVar 3) (wC (.int 0)))) (wBl (wBin dEq (wVar 4) (wLst wNil))))) (wRet (wTup (wCons (wBin dAddT (wLst (wCons (wC (.int 0)) (wCons (wC (.int 0)) wNil))) (wSlT (wVar 5) (wSome (wC (.int 1))) wNone)) (wCons (wLift (wBin dIx (wVar 5) (wC (.int 0)))) wNil)))) wNext)
  T5)
noncomputable def T3 : WS := (wSeq (wIf (wAnd (wBl (wBin dEq (wVar 1) (wC (.str (Str.ofString "nought"))))) (wAnd (wBl (wBin dEq (wVar 3) (wC (.int 0)))) (wAnd (wBl (wBin dEq (wBin dIx (wVar 5) (wC (.int 0))) (wC (.int 0)))) (wBl (wBin (dCmp fun i j => decide (j < i)) (wCall dLen (wCons (wVar 5) wNil)) (wC (.int 1))))))) (wRet (wTup (wCons (wSlT (wVar 5) (wSome (wC (.int 1))) wNone) (wCons (wC (.int 0)) wNil)))) wNext)
  T4)
noncomputable def T2 : WS := (wSeq (wIf (wAnd (wBl (wBin dEq (wVar 1) (wC (.str (Str.ofString "nought"))))) (wAnd (wBl (wBin dEq (wVar 3) (wC (.int 0)))) (wBl (wBin dNe (wVar 4) (wLst wNil))))) (wRet (wTup (wCons (wBin dAddT (wBin dAddT (wSlT (wVar 4) wNone (wSome (wUn dNeg (wC (.int 1))))) (wLst (wCons (wBin dAddT (wBin dIx (wVar 4) (wUn dNeg (wC (.int 1)))) (wBin dIx (wVar 5) (wC (.int 0)))) wNil))) (wSlT (wVar 5) (wSome (wC (.int 1))) wNone)) (wCons (wC (.int 0)) wNil)))) wNext)
  T3)
noncomputable def T1 : WS := (wSeq (wIf (wAnd (wBl (wBin (dIn false) (wVar 1) (wTup (wCons (wC (.str (Str.ofString "one"))) (wCons (wC (.str (Str.ofString "less"))) wNil))))) (wBl (wBin dEq (wVar 3) (wBin dIx (wLst (wCons (wC (.int 1)) (wCons (wUn dNeg (wC (.int 1))) wNil))) (wCall dInt (wCons (wBin dEq (wVar 1) (wC (.str (Str.ofString "less")))) wNil)))))) (wSeq (wSetIx 5 (wBin dSub (wBin dIx (wVar 5) (wC (.int 0))) (wVar 3)) (wC (.int 0)))
  (wSeq (wIf (wBl (wBin dEq (wVar 4) (wLst wNil))) (wRetT 5 (wC (.int 0))) wNext)
  (wSeq (wSetIx 4 (wBin dSub (wBin dIx (wVar 4) (wUn dNeg (wC (.int 1)))) (wVar 3)) (wUn dNeg (wC (.int 1))))
  (wRet (wTup (wCons (wBin dAddT (wVar 4) (wVar 5)) (wCons (wLift (wVar 3)) wNil))))))) wNext)
  T2)
noncomputable def T0 : WS := (wSeq (wSet 3 (wLift (wBin dIx (wVar 0) (wVar 2))))
  (wSeq (wSet 4 (wCall dList (wCons (wSlT (wVar 0) wNone (wSome (wVar 2))) wNil)))
  (wSeq (wSet 5 (wCall dList (wCons (wSlT (wVar 0) (wSome (wBin dAddT (wVar 2) (wC (.int 1)))) wNone) wNil)))
  T1)))
theorem step_eq : w__law_step = (wSeq (wIf (wOr (wBl (wBin (dCmp fun i j => decide (i < j)) (wVar 2) (wC (.int 0)))) (wBl (wBin (dCmp fun i j => decide (j ≤ i)) (wBin dAddT (wVar 2) (wC (.int 1))) (wCall dLen (wCons (wVar 0) wNil))))) (wRet (wC .non)) wNext)
  T0) := rfl
section
variable {P : EndsP} {L A R : List D} {v : Str} {a n : Int}
theorem sk1 (h1 : v ≠ w1) (h2 : v ≠ w2) (h : T2 P [some (.lst L), some (.str v), some (.int a), some (.int n), some (.lst A), some (.lst R)]) : T1 P [some (.lst L), some (.str v), some (.int a), some (.int n), some (.lst A), some (.lst R)] := by
  simp only [T1, wSeq, wIf, wAnd, wSetIx, wBin, wC, wRetT, D.pure, true_and, wNext, wUn, wRet, wTup, wCons, wLift, wNil, List.length_cons, List.length_nil, Nat.zero_add, Nat.reduceAdd, sz2, r_var, r_neg, Int.reduceNeg, r_bl, wLst, sz0, wCall, Bool.false_eq_true, reduceIte, look, Option.isSome_some, List.set_cons_succ, List.set_cons_zero, oget_s, r_setL, r_ixL, r_eqL, r_blOf, r2_addL, List.length_set, atI_0, r_eqS, r_intB, in6 h1 h2]
  exact h
theorem sk2 (h3 : v ≠ w3) (h : T3 P [some (.lst L), some (.str v), some (.int a), some (.int n), some (.lst A), some (.lst R)]) : T2 P [some (.lst L), some (.str v), some (.int a), some (.int n), some (.lst A), some (.lst R)] := by
  simp only [T2, wSeq, wIf, wAnd, wRet, wTup, wCons, wBin, wSlT, wNone, wLst, wUn, wC, wNil, List.length_cons, List.length_nil, Nat.zero_add, sz1, Nat.reduceAdd, sz2, true_and, r_some, r_intOf, r_var, r_neg, Int.reduceNeg, wNext, r_bl, sz0, Bool.false_eq_true, reduceIte, look, oget_s, r2_slL, r_ixL, atI_0, r2_addL, pureL, Bool.and_true, r_neL, r_blOf, r_eqI, r_eqS, decide_eq_false h3]
  exact h
theorem sk3 (h3 : v ≠ w3) (h : T4 P [some (.lst L), some (.str v), some (.int a), some (.int n), some (.lst A), some (.lst R)]) : T3 P [some (.lst L), some (.str v), some (.int a), some (.int n), some (.lst A), some (.lst R)] := by
  simp only [T3, wSeq, wIf, wAnd, wRet, wTup, wCons, wSlT, wNone, wC, wNil, List.length_cons, List.length_nil, Nat.zero_add, Nat.reduceAdd, sz2, true_and, r_some, r_intOf, r_var, wNext, r_bl, wBin, wCall, Bool.false_eq_true, reduceIte, look, oget_s, r2_slL, r_lenL, r_cmp, r_blOf, r_ixL, atI_0, r_eqI, r_eqS, decide_eq_false h3]
  exact h
theorem sk4 (h4 : v ≠ w4) (h : T5 P [some (.lst L), some (.str v), some (.int a), some (.int n), some (.lst A), some (.lst R)]) : T4 P [some (.lst L), some (.str v), some (.int a), some (.int n), some (.lst A), some (.lst R)] := by
  simp only [T4, wSeq, wIf, wAnd, wRet, wTup, wCons, wBin, wLst, wC, wNil, List.length_cons, List.length_nil, Nat.zero_add, Nat.reduceAdd, sz2, wSlT, wNone, wLift, true_and, r_var, r_some, r_intOf, wNext, r_bl, sz0, Bool.false_eq_true, reduceIte, look, oget_s, r_ixL, atI_0, r2_slL, r2_addL, pureL, D.pure, Bool.and_self, List.cons_append, List.nil_append, r_eqL, r_blOf, r_eqI, r_eqS, decide_eq_false h4]
  exact h
theorem sk5 (h5 : v ≠ w5) (h : P.rt .non [some (.lst L), some (.str v), some (.int a), some (.int n), some (.lst A), some (.lst R)]) : T5 P [some (.lst L), some (.str v), some (.int a), some (.int n), some (.lst A), some (.lst R)] := by
  simp only [T5, wSeq, wIf, wAnd, wRet, wTup, wCons, wBin, wLst, wC, wNil, List.length_cons, List.length_nil, Nat.zero_add, Nat.reduceAdd, sz3, wSlT, wNone, wUn, sz2, true_and, r_neg, Int.reduceNeg, r_some, r_intOf, r_var, wNext, r_bl, Bool.false_eq_true, reduceIte, look, oget_s, r2_slL, r_ixL, atI_0, r2_add, r2_addL, pureL, D.pure, Bool.and_true, Bool.true_and, r_cmp, r_blOf, r_eqS, decide_eq_false h5]
  exact h
end
theorem ok__law_step {P : Program} {w : World} {K : PySem.W.Frag} {mg : Str → Option Value} {base : Heap} {f : Addr} {fd : FuncData} (F : Fun K "_law_step" "_law_step" s__law_step f fd) (B : Bn K mg) : FnOk P w K mg base CX0 1 f fd ["_law_twists_here", "_law_word", "_law_at"] (spR K g_law_step) := by
  refine fn_ro (T := t__law_step) F sc__law_step rfl (by decide) (fun ds kk h => ?_) (b__law_step B) (fun ds kk h => ?_)
  · obtain ⟨l, v, a, rfl, _⟩ := h
    rfl
  · obtain ⟨l, v, a, rfl, hl, k⟩ := h
    rw [step_eq]
    simp only [wSeq, wIf, wOr, env0, List.map_cons, List.map_nil, List.length_cons, List.length_nil, Nat.zero_add, Nat.reduceAdd, List.replicate, List.cons_append, List.nil_append, wRet, wC, wNext, reduceIte, r_bl, wBin, wCall, wCons, wNil, r_var, look, oget_s, r_lenL, r2_add, r_cmp, r_blOf]
    have hlen : (I l).length = l.length := by simp
    cases hp : plc l a with
    | false =>
      rw [none_of hp] at k
      have hc : a < 0 ∨ ((I l).length : Int) ≤ a + 1 := by
        have h0 : ¬ (0 ≤ a ∧ a < (l.length : Int) - 1) := of_decide_eq_false hp
        rw [hlen]; omega
      refine ite_dec (fun _ => k) fun h1 => ?_
      rw [if_pos (decide_eq_true (hc.resolve_left h1))]
      exact k
    | true =>
      have h0 : 0 ≤ a ∧ a < (l.length : Int) - 1 := of_decide_eq_true hp
      rw [if_neg (fun z => by have := of_decide_eq_true z; omega), if_neg (fun z => by have := of_decide_eq_true z; rw [hlen] at this; omega)]
      obtain ⟨pre, rs, n, r, el, ea, est⟩ := parts hp
      rw [est] at k
      subst ea
      have el2 : I l = I pre ++ .int n :: .int r :: I rs := by rw [el]; simp
      have hl2 : pre.length + rs.length ≤ 20 := by rw [el] at hl; simp at hl; omega
      have e1 : (pre.length : Int) = ((I pre).length : Int) := by simp
      have a0 : L2.atI (I pre ++ D.int n :: D.int r :: I rs) (pre.length : Int) = some (.int n) := by rw [e1, at0]
      have cp : cutD (I pre ++ D.int n :: D.int r :: I rs) none (some (pre.length : Int)) = I pre := by rw [e1, cutP]
      have c1 : cutD (I pre ++ D.int n :: D.int r :: I rs) (some ((pre.length : Int) + 1)) none = .int r :: I rs := by rw [e1, cut1]
      have pr : pureL (D.int r :: I rs) = true := by simp only [pureL, D.pure, Bool.true_and]; exact pI
      simp only [T0, wSeq, wSet, wLift, wBin, el2, wCall, wCons, wSlT, wNone, wNil, r_some, wC, r_var, look, List.set_cons_succ, List.set_cons_zero, oget_s, r2_add, r_intOf, r2_slL, pu, c1, r_listL, pureL, D.pure, pI, Bool.and_self, true_and, cp, r_ixL, a0]
      unfold stp at k
      rcases words v with rfl | rfl | rfl | rfl | rfl | ⟨n1, n2, n3, n4, n5⟩
      · rw [if_pos rfl] at k
        simp only [T1, wSeq, wIf, wAnd, wSetIx, wBin, wC, wRetT, D.pure, true_and, wNext, wUn, wRet, wTup, wCons, wLift, wNil, List.length_cons, List.length_nil, Nat.zero_add, Nat.reduceAdd, sz2, r_var, r_neg, Int.reduceNeg, r_bl, wLst, sz0, wCall, Bool.false_eq_true, reduceIte, look, Option.isSome_some, List.set_cons_succ, List.set_cons_zero, oget_s, r_setL, r_ixL, r_eqL, r_blOf, Nat.zero_lt_succ, ixN_0, r2_addL, List.length_set, pureL, pI, Bool.and_true, atI_0, List.getElem?_cons_zero, r_sub, r_eqS, d12, r_intB, r_eqI, in1]
        refine ite_dec (fun hn => ?_) fun hn => ?_
        · rw [if_pos hn] at k
          subst hn
          rcases List.eq_nil_or_concat pre with rfl | ⟨bs, z, rfl⟩
          · rw [if_pos rfl] at k
            exact ⟨rfl, rfl, fun _ => k, fun z => absurd rfl z⟩
          · rw [List.concat_eq_append] at *
            rw [if_neg (by simp), adj_snoc] at k
            have e2 : I (bs ++ [z]) = I bs ++ [.int z] := by simp
            simp only [e2, Int.reduceNeg, atL, ixL, oget_s, r_sub, D.pure, true_and]
            rw [setL]
            refine ⟨e2 ▸ eq9, rfl, fun z => absurd z ne_lst, fun _ => ⟨pc pI rfl, Nat.le_of_lt (small (by simp at hl2 ⊢; omega)), ?_⟩⟩
            simp [rsD] at k ⊢
            exact k
        · rw [if_neg hn] at k
          exact sk2 (by decide) (sk3 (by decide) (sk4 (by decide) (sk5 (by decide) k)))
      · rw [if_neg (by decide), if_pos rfl] at k
        simp only [T1, wSeq, wIf, wAnd, wSetIx, wBin, wC, wRetT, D.pure, true_and, wNext, wUn, wRet, wTup, wCons, wLift, wNil, List.length_cons, List.length_nil, Nat.zero_add, Nat.reduceAdd, sz2, r_var, r_neg, Int.reduceNeg, r_bl, wLst, sz0, wCall, Bool.false_eq_true, reduceIte, look, Option.isSome_some, List.set_cons_succ, List.set_cons_zero, oget_s, r_setL, r_ixL, r_eqL, r_blOf, Nat.zero_lt_succ, ixN_0, r2_addL, List.length_set, pureL, pI, Bool.and_true, atI_0, List.getElem?_cons_zero, r_sub, r_eqS, decide_true, r_intB, atI_1, List.getElem?_cons_succ, r_eqI, in2]
        refine ite_dec (fun hn => ?_) fun hn => ?_
        · rw [if_pos hn] at k
          subst hn
          rcases List.eq_nil_or_concat pre with rfl | ⟨bs, z, rfl⟩
          · rw [if_pos rfl] at k
            exact ⟨rfl, rfl, fun _ => k, fun z => absurd rfl z⟩
          · rw [List.concat_eq_append] at *
            rw [if_neg (by simp), adj_snoc] at k
            have e2 : I (bs ++ [z]) = I bs ++ [.int z] := by simp
            simp only [e2, Int.reduceNeg, atL, ixL, oget_s, r_sub, D.pure, true_and]
            rw [setL]
            refine ⟨e2 ▸ eq9, rfl, fun z => absurd z ne_lst, fun _ => ⟨pc pI rfl, Nat.le_of_lt (small (by simp at hl2 ⊢; omega)), ?_⟩⟩
            simp [rsD] at k ⊢
            exact k
        · rw [if_neg hn] at k
          exact sk2 (by decide) (sk3 (by decide) (sk4 (by decide) (sk5 (by decide) k)))
      · rw [if_neg (by decide), if_neg (by decide), if_pos rfl] at k
        refine sk1 (by decide) (by decide) ?_
        simp only [T2, wSeq, wIf, wAnd, wRet, wTup, wCons, wBin, wSlT, wNone, wLst, wUn, wC, wNil, List.length_cons, List.length_nil, Nat.zero_add, sz1, Nat.reduceAdd, sz2, true_and, r_some, r_intOf, r_var, r_neg, Int.reduceNeg, wNext, r_bl, sz0, Bool.false_eq_true, reduceIte, look, oget_s, r2_slL, pureL, D.pure, pI, Bool.and_self, ct, r_ixL, atI_0, List.getElem?_cons_zero, r2_addL, Bool.and_true, r_neL, r_blOf, r_eqI, r_eqS, decide_true]
        unfold nou wno at k
        refine ite_dec (fun hn => ?_) fun hn => ?_
        · subst hn
          rcases List.eq_nil_or_concat pre with rfl | ⟨bs, z, rfl⟩
          · refine ⟨rfl, rfl, fun _ => ?_, fun z => absurd rfl z⟩
            simp only [T3, wSeq, wIf, wAnd, List.length_nil, wRet, wTup, wCons, wSlT, wNone, wC, wNil, List.length_cons, Nat.zero_add, Nat.reduceAdd, sz2, true_and, r_some, r_intOf, r_var, wNext, r_bl, wBin, wCall, Bool.false_eq_true, reduceIte, look, oget_s, r2_slL, pureL, D.pure, pI, Bool.and_self, ct, r_lenL, r_cmp, r_blOf, r_ixL, atI_0, List.getElem?_cons_zero, r_eqI, decide_true, r_eqS]
            refine ite_dec (fun hr => ?_) fun hr => ?_
            · refine ite_dec (fun hs => ?_) fun hs => ?_
              · rw [if_pos (by
                  have : rs ≠ [] := fun z => by rw [z] at hs; simp at hs
                  simp [hr, this])] at k
                exact k
              · rw [if_neg (by
                  have : rs = [] := List.eq_nil_of_length_eq_zero (by simp at hs; omega)
                  simp [this])] at k
                exact sk4 (by decide) (sk5 (by decide) k)
            · rw [if_neg (by simp [hr])] at k
              exact sk4 (by decide) (sk5 (by decide) k)
          · rw [List.concat_eq_append] at *
            rw [if_pos (by simp), if_neg (by simp), adj_snoc] at k
            have e2 : I (bs ++ [z]) = I bs ++ [.int z] := by simp
            simp only [e2, Int.reduceNeg, atL, cutL, oget_s, r2_add, D.pure, true_and]
            refine ⟨e2 ▸ eq9, rfl, fun z => absurd z ne_lst, fun _ => ⟨pI, Nat.le_of_lt (small (by simp at hl2 ⊢; omega)), pc pI rfl, Nat.le_of_lt (small (by simp at hl2 ⊢; omega)), ?_⟩⟩
            simp [rsD] at k ⊢
            exact k
        · rw [if_neg (by simp [hn])] at k
          simp only [T3, wSeq, wIf, wAnd, wRet, wTup, wCons, wSlT, wNone, wC, wNil, List.length_cons, List.length_nil, Nat.zero_add, Nat.reduceAdd, sz2, true_and, r_some, r_intOf, r_var, wNext, r_bl, wBin, wCall, Bool.false_eq_true, reduceIte, look, oget_s, r2_slL, pureL, D.pure, Bool.true_and, r_lenL, r_cmp, r_blOf, r_ixL, atI_0, List.getElem?_cons_zero, r_eqI, r_eqS]
          rw [if_neg (fun z => hn (of_decide_eq_true z))]
          exact sk4 (by decide) (sk5 (by decide) k)
      · rw [if_neg (by decide), if_neg (by decide), if_neg (by decide), if_pos rfl] at k
        refine sk1 (by decide) (by decide) (sk2 (by decide) (sk3 (by decide) ?_))
        simp only [T4, wSeq, wIf, wAnd, wRet, wTup, wCons, wBin, wLst, wC, wNil, List.length_cons, List.length_nil, Nat.zero_add, Nat.reduceAdd, sz2, wSlT, wNone, wLift, true_and, r_var, r_some, r_intOf, wNext, r_bl, sz0, Bool.false_eq_true, reduceIte, look, oget_s, r_ixL, atI_0, List.getElem?_cons_zero, D.pure, r2_slL, pureL, pI, Bool.and_self, ct, r2_addL, List.cons_append, List.nil_append, r_eqL, r_blOf, r_eqI, r_eqS, decide_true]
        refine ite_dec (fun hn => ?_) fun hn => ?_
        · rcases List.eq_nil_or_concat pre with rfl | ⟨bs, z, rfl⟩
          · rw [if_pos ⟨rfl, hn⟩] at k
            exact ⟨rfl, rfl, fun _ => ⟨Nat.le_of_lt (small (by simp at hl2 ⊢; omega)), k⟩, fun z => absurd rfl z⟩
          · rw [List.concat_eq_append] at *
            rw [if_neg (by simp)] at k
            have e2 : I (bs ++ [z]) = I bs ++ [.int z] := by simp
            exact ⟨eq9, rfl, fun z => absurd z (by rw [e2]; exact ne_lst), fun _ => sk5 (by decide) k⟩
        · rw [if_neg (fun z => hn z.2)] at k
          exact sk5 (by decide) k
      · rw [if_neg (by decide), if_neg (by decide), if_neg (by decide), if_neg (by decide), if_pos rfl] at k
        refine sk1 (by decide) (by decide) (sk2 (by decide) (sk3 (by decide) (sk4 (by decide) ?_)))
        simp only [T5, wSeq, wIf, wAnd, wRet, wTup, wCons, wBin, wLst, wC, wNil, List.length_cons, List.length_nil, Nat.zero_add, Nat.reduceAdd, sz3, wSlT, wNone, wUn, sz2, true_and, r_neg, Int.reduceNeg, r_some, r_intOf, r_var, wNext, r_bl, Bool.false_eq_true, reduceIte, look, oget_s, r2_slL, pureL, D.pure, pI, Bool.and_self, ct, r_ixL, atI_0, List.getElem?_cons_zero, r2_add, r2_addL, r_cmp, r_blOf, r_eqS, decide_true]
        refine ite_dec (fun hn => ?_) fun hn => ?_
        · rw [if_pos hn] at k
          refine ⟨Nat.le_of_lt (small (by simp; omega)), pc pI rfl, Nat.le_of_lt (small (by simp; omega)), ?_⟩
          simp [rsD] at k ⊢
          exact k
        · rw [if_neg hn] at k
          exact k
      · rw [if_neg n1, if_neg n2, if_neg n3, if_neg n4, if_neg n5] at k
        exact sk1 n1 n2 (sk2 n3 (sk3 n3 (sk4 n4 (sk5 n5 k))))
end K68
set_option Elab.async false
set_option linter.all false
set_option maxRecDepth 100000
set_option maxHeartbeats 4000000
namespace K68
open PySem PySem.Spec L2 PV
open PyProof.Rows (envOfC)
open V68
noncomputable def g_law_cell_at : GA := fun ds k => ∃ (ns : List Int) (i : Nat), ds = [.kls (ns.map .int), .int i] ∧ ∀ c : Int, k (.int c)
noncomputable abbrev s__law_cell_at : Stmt := top 24
theorem sc__law_cell_at : FnScope ["_law_script", "_law_k"] ["_law_script", "_law_k"] (defScope s__law_cell_at) := ⟨rfl, rfl, rfl, by decide +kernel, rfl, by decide +kernel, by decide +kernel⟩
noncomputable def t__law_cell_at : Tg := { own := fun i => false, io := [] }
noncomputable def w__law_cell_at : WS := (wSeq (wIf (wBl (wBin (dCmp fun i j => decide (i < j)) (wVar 1) (wCall dLen (wCons (wVar 0) wNil)))) (wRet (wLift (wBin dIx (wVar 0) (wVar 1)))) wNext)
  (wRet (wC (.int 0))))
theorem b__law_cell_at {P : Program} {w : World} {K : PySem.W.Frag} {mg : Str → Option Value} {base : Heap} {f : Addr} (B : Bn K mg) : ∀ (cdv : Value) (A : Around) (outer : List PySem.Env) (s : Shared) (H : Hp) (E : XK), Room 0 (A.deeper (envOfC "_law_cell_at" (defScope s__law_cell_at) s.heap.objs.size f cdv)) → SVs (cxOf CX0 P w K mg base ["_law_script", "_law_k"] "_law_cell_at" (defScope s__law_cell_at) f cdv A outer s H E).nox t__law_cell_at (defBody s__law_cell_at) w__law_cell_at := fun cdv A outer s H E hr =>
    (svs_cons (sv_if (tv_cmp od_lt (ev_var 1) (ev_callB cd_len B.nb_len bt_len (av_cons (ev_var 0) av_nil))) (svs_one (sv_ret (ev_lift (ev_ix (xd_ix (hu_of hr)) (ev_var 0) (ev_var 1))))) svs_nil)
    (svs_one (sv_ret ev_int)))
theorem ok__law_cell_at {P : Program} {w : World} {K : PySem.W.Frag} {mg : Str → Option Value} {base : Heap} {f : Addr} {fd : FuncData} (F : Fun K "_law_cell_at" "_law_cell_at" s__law_cell_at f fd) (B : Bn K mg) : FnOk P w K mg base CX0 1 f fd ["_law_script", "_law_k"] (spR K g_law_cell_at) := by
  refine fn_ro (T := t__law_cell_at) F sc__law_cell_at rfl (by decide) (fun ds kk h => ?_) (b__law_cell_at B) (fun ds kk h => ?_)
  · obtain ⟨ns, i, rfl, _⟩ := h
    rfl
  · obtain ⟨ns, i, rfl, k⟩ := h
    simp only [w__law_cell_at, wSeq, wIf, env0, List.map_cons, List.map_nil, List.length_cons, List.length_nil, Nat.zero_add, Nat.reduceAdd, List.cons_append, List.nil_append, wRet, wLift, wBin, r_var, wNext, wC, r_bl, wCall, wCons, wNil, look, oget_s, r_ixK, r_lenK, r_cmp, r_blOf]
    split
    · rename_i h
      have h : (i : Int) < ((ns.map D.int).length : Int) := by simpa using h
      have hi : i < ns.length := by rw [List.length_map] at h; omega
      rw [atI_ofNat, List.getElem?_map, List.getElem?_eq_getElem hi]
      exact ⟨rfl, k _⟩
    · exact k 0
noncomputable def g_law_twists : GA := fun ds k => ∃ cs : List Int, ds = [.lst (cs.map .int), .int 40] ∧ cs.length ≤ 40 ∧ ∀ ns : List Int, ns.length = cs.length → (∀ n ∈ ns, -40 ≤ n ∧ n ≤ 40) → k (.lst (ns.map .int))
theorem pick3 {a b c : D} {r : Int} (h0 : 0 ≤ r) (h1 : r < 3) : L2.atI [a, b, c] r = some (if r = 0 then a else if r = 1 then b else c) := by
  obtain h | h | h : r = 0 ∨ r = 1 ∨ r = 2 := by omega
  · subst h; rfl
  · subst h; rfl
  · subst h; rfl
noncomputable abbrev s__law_twists : Stmt := top 27
theorem sc__law_twists : FnScope ["_law_cells", "_law_most", "_law_twists_here", "_law_left", "_law_cell", "_law_many"] ["_law_cells", "_law_most"] (defScope s__law_twists) := ⟨rfl, rfl, rfl, by decide +kernel, rfl, by decide +kernel, by decide +kernel⟩
noncomputable def t__law_twists : Tg := { own := fun i => i == 2 || i == 3 || i == 4 || i == 5, io := [] }
noncomputable def w__law_twists : WS := (wSeq (wSet 2 (wLst wNil))
  (wSeq (wSet 3 (wLift (wVar 1)))
  (wSeq (wFor (wSeqD (wVar 0)) (gN 4) (wSeq (wSet 5 (wBin dIx (wLst (wCons (wBin dSub (wBin dMod (wVar 4) (wC (.int 7))) (wC (.int 3))) (wCons (wBin dSub (wBin dMod (wVar 4) (wC (.int 3))) (wC (.int 1))) (wCons (wBin dSub (wBin dMod (wBin dDiv (wVar 4) (wC (.int 21))) (wBin dAddT (wBin dMul (wC (.int 2)) (wVar 1)) (wC (.int 1)))) (wVar 1)) wNil)))) (wBin dMod (wBin dDiv (wVar 4) (wC (.int 7))) (wC (.int 3)))))
  (wSeq (wIf (wBl (wBin (dCmp fun i j => decide (j < i)) (wCall dAbs (wCons (wVar 5) wNil)) (wVar 3))) (wSet 5 (wC (.int 0))) wNext)
  (wSeq (wDrop (wMt 2 "list" gAppend (wCons (wLift (wVar 5)) wNil)))
  (wSet 3 (wBin dSub (wVar 3) (wCall dAbs (wCons (wVar 5) wNil))))))))
  (wRetS 2))))
theorem b__law_twists {P : Program} {w : World} {K : PySem.W.Frag} {mg : Str → Option Value} {base : Heap} {f : Addr} (B : Bn K mg) : ∀ (cdv : Value) (A : Around) (outer : List PySem.Env) (s : Shared) (H : Hp) (E : XK), Room 0 (A.deeper (envOfC "_law_twists" (defScope s__law_twists) s.heap.objs.size f cdv)) → SVs (cxOf CX0 P w K mg base ["_law_cells", "_law_most", "_law_twists_here", "_law_left", "_law_cell", "_law_many"] "_law_twists" (defScope s__law_twists) f cdv A outer s H E).nox t__law_twists (defBody s__law_twists) w__law_twists := fun cdv A outer s H E hr =>
    (svs_cons (sv_set (i := 2) (ev_lst av_nil) sc__law_twists.nd)
    (svs_cons (sv_set (i := 3) (ev_lift (ev_var 1)) sc__law_twists.nd)
    (svs_cons (sv_for PassesOwn.never (iv_par (i := 0)) (gv_name (i := 4) sc__law_twists.nd) (svs_cons (sv_set (i := 5) (ev_ix (xd_ix (hu_of hr)) (ev_lst (av_cons (ev_op od_sub (ev_op od_mod (ev_var 4) ev_int) ev_int) (av_cons (ev_op od_sub (ev_op od_mod (ev_var 4) ev_int) ev_int) (av_cons (ev_op od_sub (ev_op od_mod (ev_op od_div (ev_var 4) ev_int) (ev_op od_addT (ev_op od_mul ev_int (ev_var 1)) ev_int)) (ev_var 1)) av_nil)))) (ev_op od_mod (ev_op od_div (ev_var 4) ev_int) ev_int)) sc__law_twists.nd)
    (svs_cons (sv_if (tv_cmp od_gt (ev_callB cd_abs B.nb_abs bt_abs (av_cons (ev_var 5) av_nil)) (ev_var 3)) (svs_one (sv_set (i := 5) ev_int sc__law_twists.nd)) svs_nil)
    (svs_cons (sv_expr (ev_mt (i := 2) md_append PySem.F.plainAttrs_list PySem.F.slot_list_append PySem.F.type_list_append (av_cons (ev_lift (ev_var 5)) av_nil)))
    (svs_one (sv_set (i := 3) (ev_op od_sub (ev_var 3) (ev_callB cd_abs B.nb_abs bt_abs (av_cons (ev_var 5) av_nil))) sc__law_twists.nd))))))
    (svs_one (sv_retS (i := 2))))))
theorem ok__law_twists {P : Program} {w : World} {K : PySem.W.Frag} {mg : Str → Option Value} {base : Heap} {f : Addr} {fd : FuncData} (F : Fun K "_law_twists" "_law_twists" s__law_twists f fd) (B : Bn K mg) : FnOk P w K mg base CX0 1 f fd ["_law_cells", "_law_most"] (spR K g_law_twists) := by
  refine fn_ro (T := t__law_twists) F sc__law_twists rfl (by decide) (fun ds kk h => ?_) (b__law_twists B) (fun ds kk h => ?_)
  · obtain ⟨cs, rfl, _⟩ := h
    rfl
  · obtain ⟨cs, rfl, hcs, k⟩ := h
    simp only [w__law_twists, wSeq, wSet, wLst, wNil, List.length_nil, sz0, wLift, env0, List.map_cons, List.map_nil, List.length_cons, Nat.zero_add, Nat.reduceAdd, List.replicate, List.cons_append, List.nil_append, List.set_cons_succ, List.set_cons_zero, r_for, r_seq, r_var, look, oget_s, r_seqL, pure_ints, true_and, D.pure]
    refine ⟨fun i ρ => ∃ (ns : List Int) (l : Int) (o4 o5 : Option D), ns.length = i ∧ (∀ n ∈ ns, -40 ≤ n ∧ n ≤ 40) ∧ ρ = [some (.lst (cs.map .int)), some (.int 40), some (.lst (ns.map .int)), some (.int l), o4, o5], ⟨[], 40, none, none, rfl, by simp, rfl⟩, ?_, ?_⟩
    · rintro i d ρ hd ⟨ns, l, o4, o5, hl, hns, rfl⟩
      rw [List.getElem?_map] at hd
      obtain ⟨c, hc, hd⟩ := Option.map_eq_some_iff.mp hd
      subst hd
      have hi := (List.getElem?_eq_some_iff.mp hc).1
      have p3 := pick3 (a := D.int (c % 7 - 3)) (b := D.int (c % 3 - 1)) (c := D.int (c / 21 % (2 * 40 + 1) - 40)) (Int.emod_nonneg (c / 7) (show (3 : Int) ≠ 0 by decide)) (Int.emod_lt_of_pos (c / 7) (show (0 : Int) < 3 by decide))
      have hb : ∃ m : Int, L2.atI [D.int (c % 7 - 3), D.int (c % 3 - 1), D.int (c / 21 % (2 * 40 + 1) - 40)] (c / 7 % 3) = some (D.int m) ∧ -40 ≤ m ∧ m ≤ 40 := by
        rw [p3]
        split
        · exact ⟨_, rfl, by omega, by omega⟩
        · split
          · exact ⟨_, rfl, by omega, by omega⟩
          · exact ⟨_, rfl, by omega, by omega⟩
      obtain ⟨m, hm, hm1, hm2⟩ := hb
      simp only [Int.reduceMul, Int.reduceAdd] at hm
      simp only [gN, wSeq, wSet, wBin, wLst, wCons, List.set_cons_succ, List.set_cons_zero, wC, wNil, List.length_cons, List.length_nil, Nat.zero_add, Nat.reduceAdd, sz3, wIf, wDrop, wMt, wLift, wCall, Int.reduceNeg, r_var, wNext, r_bl, true_and, look, r_tyL, BEq.rfl, oget_s, r_abs, Int.reduceLT, reduceIte, r_sub, r_app, List.length_map, D.pure, r_divP, r_modP, r_ixL, r_mulA, Int.reduceMul, r2_add, Int.reduceAdd, hm, r_cmp, r_blOf]
      have next : ∀ x : Int, -40 ≤ x → x ≤ 40 → ∀ l' : Int, ∃ (ns' : List Int) (l'' : Int) (o4 o5 : Option D), ns'.length = i + 1 ∧ (∀ n ∈ ns', -40 ≤ n ∧ n ≤ 40) ∧ [some (D.lst (cs.map .int)), some (.int 40), some (.lst (ns.map .int ++ [.int x])), some (.int l'), some (.int c), some (.int x)] = [some (.lst (cs.map .int)), some (.int 40), some (.lst (ns'.map .int)), some (.int l''), o4, o5] := fun x h1 h2 l' =>
        ⟨ns ++ [x], l', _, _, by rw [List.length_append, hl]; rfl, fun n hn => by
          rcases List.mem_append.mp hn with h | h
          · exact hns n h
          · rw [List.mem_singleton.mp h]; exact ⟨h1, h2⟩, by rw [List.map_append]; rfl⟩
      generalize (if m < 0 then -m else m) = am
      split
      · exact ⟨small (by omega), next 0 (by omega) (by omega) _⟩
      · exact ⟨small (by omega), next m hm1 hm2 _⟩
    · rintro ρ ⟨ns, l, o4, o5, hl, hns, rfl⟩
      rw [List.length_map] at hl
      simp only [wRetS, look, oget_s]
      exact k ns hl hns
noncomputable def tdD : Option (List Int × Int) → D
  | some (q, v) => .tup [.lst (I q), .int v]
  | none => .str (Str.ofString "refused")
noncomputable def g_law_told : GA := fun ds k => ∃ (l : List Int) (w : Str) (a : Int), ds = [.lst (I l), .tup [.str w, .int a]] ∧ l.length ≤ 13 ∧ k (tdD (stpI l w a))
noncomputable abbrev s__law_told : Stmt := top 29
theorem sc__law_told : FnScope ["_law_twists_here", "_law_one", "_law_told_here", "_law_found", "e"] ["_law_twists_here", "_law_one"] (defScope s__law_told) := ⟨rfl, rfl, rfl, by decide +kernel, rfl, by decide +kernel, by decide +kernel⟩
noncomputable def t__law_told : Tg := { own := fun i => i == 2 || i == 3 || i == 4, io := [] }
noncomputable def w__law_told : WS := (wSeq (wSet 2 (wC .non))
  (wSeq (wSet 3 (wC .non))
  (wSeq (wTrySet 3 g_step (wCons (wVar 0) (wCons (wVar 1) wNil)) isR 4 (wSet 2 (wLift (wVar 4))))
  (wSeq (wIf (wBl (wBin (dIs false) (wVar 2) (wC .non))) (wRetS 3) wNext)
  (wSeq (wIf (wOr (wNot (wTru (wIsx 2 (isT true)))) (wNot (wTru (wIsx 2 (isT true))))) (wRet (wC (.str (Str.ofString "another refusal")))) wNext)
  (wSeq (wIf (wTru (wIsx 2 (isT false))) (wRet (wC (.str (Str.ofString "another refusal")))) wNext)
  (wSeq (wIf (wTru (wIsx 2 (isT false))) (wRet (wC (.str (Str.ofString "another refusal")))) wNext)
  (wRet (wC (.str (Str.ofString "refused")))))))))))
theorem b__law_told {P : Program} {w : World} {K : PySem.W.Frag} {mg : Str → Option Value} {base : Heap} {f : Addr} (B : Bn K mg) (C_step : CalX P w K mg base "step" 3 ["twists", "step"] (spX K g_step)) : ∀ (cdv : Value) (A : Around) (outer : List PySem.Env) (s : Shared) (H : Hp) (E : XK), Room 3 (A.deeper (envOfC "_law_told" (defScope s__law_told) s.heap.objs.size f cdv)) → SVs (cxOf CX0 P w K mg base ["_law_twists_here", "_law_one", "_law_told_here", "_law_found", "e"] "_law_told" (defScope s__law_told) f cdv A outer s H E).nox t__law_told (defBody s__law_told) w__law_told := fun cdv A outer s H E hr =>
    (svs_cons (sv_set (i := 2) ev_non sc__law_told.nd)
    (svs_cons (sv_set (i := 3) ev_non sc__law_told.nd)
    (svs_cons (sv_trySet (i := 3) (j := 4) (cat := isR) C_step (hr.mono (by decide)) ⟨rfl, rfl, rfl⟩ (av_cons (ev_var 0) (av_cons (ev_var 1) av_nil)) B.h_TangleError.choose_spec.1 B.h_TangleError.choose_spec.2 (fun ea => (svs_one (sv_set (i := 2) (ev_lift (ev_var 4)) sc__law_told.nd))) sc__law_told.nd)
    (svs_cons (sv_if (tv_cmp od_is (ev_var 2) ev_non) (svs_one (sv_retS (i := 3))) svs_nil)
    (svs_cons (sv_if (tv_bool (bv_or (tv_not (tv_tru (ev_isx (i := 2) (tab := isT true) B.nb_isinstance (pe_glob rfl B.i_NoStep.choose_spec.1 (v := .ref B.i_NoStep.choose) rfl) rfl B.i_NoStep.choose_spec.2))) (bv_or1 (tv_not (tv_tru (ev_isx (i := 2) (tab := isT true) B.nb_isinstance (pe_bltn rfl B.i_ValueError.1 PyProof.Rows.Boot.«ValueError» (v := .ty "ValueError") rfl) rfl B.i_ValueError.2)))))) (svs_one (sv_ret ev_str)) svs_nil)
    (svs_cons (sv_if (tv_tru (ev_isxT (i := 2) (tab := isT false) (vs := [.ref B.i_BadPace.choose, .ref B.i_NoMatch.choose, .ref B.i_NoName.choose, .ref B.i_NoRow.choose, .ref B.i_NoText.choose, .ref B.i_NoTurning.choose]) B.nb_isinstance (pa_cons (pe_glob rfl B.i_BadPace.choose_spec.1 (v := .ref B.i_BadPace.choose) rfl) (pa_cons (pe_glob rfl B.i_NoMatch.choose_spec.1 (v := .ref B.i_NoMatch.choose) rfl) (pa_cons (pe_glob rfl B.i_NoName.choose_spec.1 (v := .ref B.i_NoName.choose) rfl) (pa_cons (pe_glob rfl B.i_NoRow.choose_spec.1 (v := .ref B.i_NoRow.choose) rfl) (pa_cons (pe_glob rfl B.i_NoText.choose_spec.1 (v := .ref B.i_NoText.choose) rfl) (pa_cons (pe_glob rfl B.i_NoTurning.choose_spec.1 (v := .ref B.i_NoTurning.choose) rfl) pa_nil)))))) (fun _ _ _ q => q) rfl (show 6 ≤ sizeLine by decide) (fun x k R h1 h2 => by obtain rfl := isT_val h1; exact ⟨(B.i_BadPace.choose_spec.2 x _ R h1 h2).1, (kitAny_f (B.i_BadPace.choose_spec.2 x _ R h1 h2).2 (kitAny_f (B.i_NoMatch.choose_spec.2 x _ R h1 h2).2 (kitAny_f (B.i_NoName.choose_spec.2 x _ R h1 h2).2 (kitAny_f (B.i_NoRow.choose_spec.2 x _ R h1 h2).2 (kitAny_f (B.i_NoText.choose_spec.2 x _ R h1 h2).2 (kitAny_f (B.i_NoTurning.choose_spec.2 x _ R h1 h2).2 kitAny_0))))))⟩))) (svs_one (sv_ret ev_str)) svs_nil)
    (svs_cons (sv_if (tv_tru (ev_isxT (i := 2) (tab := isT false) (vs := [.ref B.i_NotFlat.choose, .ref B.i_NoWeb.choose, .ref B.i_Odd.choose, .ref B.i_TooMany.choose, .ref B.i_TooWide.choose]) B.nb_isinstance (pa_cons (pe_glob rfl B.i_NotFlat.choose_spec.1 (v := .ref B.i_NotFlat.choose) rfl) (pa_cons (pe_glob rfl B.i_NoWeb.choose_spec.1 (v := .ref B.i_NoWeb.choose) rfl) (pa_cons (pe_glob rfl B.i_Odd.choose_spec.1 (v := .ref B.i_Odd.choose) rfl) (pa_cons (pe_glob rfl B.i_TooMany.choose_spec.1 (v := .ref B.i_TooMany.choose) rfl) (pa_cons (pe_glob rfl B.i_TooWide.choose_spec.1 (v := .ref B.i_TooWide.choose) rfl) pa_nil))))) (fun _ _ _ q => q) rfl (show 5 ≤ sizeLine by decide) (fun x k R h1 h2 => by obtain rfl := isT_val h1; exact ⟨(B.i_NotFlat.choose_spec.2 x _ R h1 h2).1, (kitAny_f (B.i_NotFlat.choose_spec.2 x _ R h1 h2).2 (kitAny_f (B.i_NoWeb.choose_spec.2 x _ R h1 h2).2 (kitAny_f (B.i_Odd.choose_spec.2 x _ R h1 h2).2 (kitAny_f (B.i_TooMany.choose_spec.2 x _ R h1 h2).2 (kitAny_f (B.i_TooWide.choose_spec.2 x _ R h1 h2).2 kitAny_0)))))⟩))) (svs_one (sv_ret ev_str)) svs_nil)
    (svs_one (sv_ret ev_str)))))))))
theorem ok__law_told {P : Program} {w : World} {K : PySem.W.Frag} {mg : Str → Option Value} {base : Heap} {f : Addr} {fd : FuncData} (F : Fun K "_law_told" "_law_told" s__law_told f fd) (B : Bn K mg) (C1 : CalX P w K mg base "step" 3 ["twists", "step"] (spX K g_step)) : FnOk P w K mg base CX0 4 f fd ["_law_twists_here", "_law_one"] (spR K g_law_told) := by
  refine fn_ro (T := t__law_told) F sc__law_told rfl (by decide) (fun ds kk h => ?_) (b__law_told B C1) (fun ds kk h => ?_)
  · obtain ⟨l, v, a, rfl, _⟩ := h
    rfl
  · obtain ⟨l, v, a, rfl, hl, k⟩ := h
    simp only [w__law_told, wSeq, wSet, wC, wTrySet, wCons, env0, List.map_cons, List.map_nil, List.length_cons, List.length_nil, Nat.zero_add, Nat.reduceAdd, List.replicate, List.cons_append, List.nil_append, List.set_cons_succ, List.set_cons_zero, wNil, wIf, wRetS, wNext, wOr, wNot, wRet, r_tru, wIsx, isT, r_truB, reduceIte, r_bl, wBin, r_var, isR, wLift, EndsP.un, look, oget_s, r14_isN, r_blOf, D.pure, r14_isX, Bool.false_eq_true, true_and]
    refine ⟨l, v, a, rfl, hl, ?_⟩
    cases hs : stpI l v a with
    | some q =>
      rw [hs] at k
      simp only []
      exact k
    | none =>
      rw [hs] at k
      simp only [decide_true, reduceIte, oget_s, Bool.false_eq_true, Bool.not_true, true_and]
      exact k
theorem adj_len {pre : List Int} {m : Int} : (adj pre m).length = pre.length := by
  rcases List.eq_nil_or_concat pre with rfl | ⟨bs, z, rfl⟩
  · rfl
  · rw [List.concat_eq_append, adj_snoc]; simp
theorem stp_len {l q : List Int} {w : Str} {a x : Int} (hl : l.length ≤ 13) (h : stpI l w a = some (q, x)) : q.length ≤ 20 := by
  cases hp : plc l a with
  | false => rw [none_of hp] at h; cases h
  | true =>
    obtain ⟨pre, rs, n, r, el, ea, est⟩ := parts hp
    rw [est] at h
    have hl2 : pre.length + rs.length ≤ 11 := by rw [el] at hl; simp at hl; omega
    unfold stp at h
    split at h
    · split at h
      · cases h; simp [adj_len]; omega
      · cases h
    · split at h
      · split at h
        · cases h; simp [adj_len]; omega
        · cases h
      · split at h
        · split at h
          · cases h
            unfold wno
            split
            · omega
            · rw [List.length_append, adj_len]; omega
          · cases h
        · split at h
          · split at h
            · cases h; simp; omega
            · cases h
          · split at h
            · split at h
              · cases h; simp; omega
              · cases h
            · cases h
theorem cut_ints {ns : List Int} {lo hi : Option Int} : ∃ cs : List Int, cutD (I ns) lo hi = I cs ∧ cs.length ≤ ns.length := by
  refine ⟨(ns.drop (HT.sIx (I ns).length 0 lo)).take (HT.sIx (I ns).length (I ns).length hi - HT.sIx (I ns).length 0 lo), ?_, ?_⟩
  · unfold cutD
    exact (by rw [List.map_take, List.map_drop] : ((ns.drop _).take _).map D.int = _).symm
  · rw [List.length_take, List.length_drop]; omega
noncomputable def g_law_good : GA := fun ds k => ∃ (l : List Int) (w : Str) (a : Int), ds = [.lst (I l), .tup [.str w, .int a]] ∧ l.length ≤ 13 ∧ k (.bl true)
noncomputable abbrev s__law_good : Stmt := top 30
theorem sc__law_good : FnScope ["_law_twists_here", "_law_one", "_law_handed", "_law_due", "_law_found"] ["_law_twists_here", "_law_one"] (defScope s__law_good) := ⟨rfl, rfl, rfl, by decide +kernel, rfl, by decide +kernel, by decide +kernel⟩
noncomputable def t__law_good : Tg := { own := fun i => i == 2 || i == 3 || i == 4, io := [] }
noncomputable def w__law_good : WS := (wSeq (wSet 2 (wCall dList (wCons (wVar 0) wNil)))
  (wSeq (wSet 3 (wCall g_law_step (wCons (wVar 0) (wCons (wBin dIx (wVar 1) (wC (.int 0))) (wCons (wBin dIx (wVar 1) (wC (.int 1))) wNil)))))
  (wSeq (wSet 4 (wCall g_law_told (wCons (wVar 2) (wCons (wVar 1) wNil))))
  (wSeq (wIf (wBl (wBin dNe (wVar 2) (wVar 0))) (wRet (wC (.bl false))) wNext)
  (wSeq (wIf (wBl (wBin (dIs false) (wVar 3) (wC .non))) (wRet (wBin dEq (wVar 4) (wC (.str (Str.ofString "refused"))))) wNext)
  (wSeq (wIf (wOr (wNot (wTru (wCall dIsi (wCons (wVar 4) (wCons (wC (.ty .tuple)) wNil))))) (wOr (wBl (wBin dNe (wVar 4) (wVar 3))) (wOr (wNot (wTru (wCall dIsi (wCons (wBin dIx (wVar 4) (wC (.int 0))) (wCons (wC (.ty .list)) wNil))))) (wTru (wCall dIsi (wCons (wBin dIx (wVar 4) (wC (.int 1))) (wCons (wC (.ty .bool)) wNil))))))) (wRet (wC (.bl false))) wNext)
  (wSeq (wTka 4 7)
  (wRet (wAndV (wBin dEq (wCall (calmG g_step) (wCons (wVar 2) (wCons (wVar 1) wNil))) (wVar 3)) (wBin dEq (wVar 2) (wVar 0)))))))))))
theorem b__law_good {P : Program} {w : World} {K : PySem.W.Frag} {mg : Str → Option Value} {base : Heap} {f : Addr} (B : Bn K mg) (C_step : CalX P w K mg base "step" 3 ["twists", "step"] (spX K g_step)) (C__law_step : Cal P w K mg base "_law_step" 1 ["_law_twists_here", "_law_word", "_law_at"] (spR K g_law_step)) (C__law_told : Cal P w K mg base "_law_told" 4 ["_law_twists_here", "_law_one"] (spR K g_law_told)) : ∀ (cdv : Value) (A : Around) (outer : List PySem.Env) (s : Shared) (H : Hp) (E : XK), Room 4 (A.deeper (envOfC "_law_good" (defScope s__law_good) s.heap.objs.size f cdv)) → SVs (cxOf CX0 P w K mg base ["_law_twists_here", "_law_one", "_law_handed", "_law_due", "_law_found"] "_law_good" (defScope s__law_good) f cdv A outer s H E).nox t__law_good (defBody s__law_good) w__law_good := fun cdv A outer s H E hr =>
    (svs_cons (sv_set (i := 2) (ev_callTy cd_list B.nb_list bt_list (av_cons (ev_var 0) av_nil)) sc__law_good.nd)
    (svs_cons (sv_set (i := 3) (ev_callC C__law_step (hr.mono (by decide)) (av_cons (ev_var 0) (av_cons (ev_ix (xd_ix (hu_of hr)) (ev_var 1) ev_int) (av_cons (ev_ix (xd_ix (hu_of hr)) (ev_var 1) ev_int) av_nil)))) sc__law_good.nd)
    (svs_cons (sv_set (i := 4) (ev_callC C__law_told (hr.mono (by decide)) (av_cons (ev_var 2) (av_cons (ev_var 1) av_nil))) sc__law_good.nd)
    (svs_cons (sv_if (tv_cmp (od_ne hr.units) (ev_var 2) (ev_var 0)) (svs_one (sv_ret ev_bl)) svs_nil)
    (svs_cons (sv_if (tv_cmp od_is (ev_var 3) ev_non) (svs_one (sv_ret (ev_cmp (od_eq hr.units) (ev_var 4) ev_str))) svs_nil)
    (svs_cons (sv_if (tv_bool (bv_or (tv_not (tv_tru (ev_callB cd_isi B.nb_isinstance bt_isinstance (av_cons (ev_var 4) (av_cons (ev_ty .tuple B.nb_tuple bt_tuple) av_nil))))) (bv_or (tv_cmp (od_ne hr.units) (ev_var 4) (ev_var 3)) (bv_or (tv_not (tv_tru (ev_callB cd_isi B.nb_isinstance bt_isinstance (av_cons (ev_ix (xd_ix (hu_of hr)) (ev_var 4) ev_int) (av_cons (ev_ty .list B.nb_list bt_list) av_nil))))) (bv_or1 (tv_tru (ev_callB cd_isi B.nb_isinstance bt_isinstance (av_cons (ev_ix (xd_ix (hu_of hr)) (ev_var 4) ev_int) (av_cons (ev_ty .bool B.nb_bool bt_bool) av_nil))))))))) (svs_one (sv_ret ev_bl)) svs_nil)
    (svs_cons (sv_tka (i := 4))
    (svs_one (sv_ret (ev_and (ev_cmp (od_eq hr.units) (ev_callC C_step.calm (hr.mono (by decide)) (av_cons (ev_var 2) (av_cons (ev_var 1) av_nil))) (ev_var 3)) (ev_one (ev_cmp (od_eq hr.units) (ev_var 2) (ev_var 0)))))))))))))
theorem ok__law_good {P : Program} {w : World} {K : PySem.W.Frag} {mg : Str → Option Value} {base : Heap} {f : Addr} {fd : FuncData} (F : Fun K "_law_good" "_law_good" s__law_good f fd) (B : Bn K mg) (C1 : CalX P w K mg base "step" 3 ["twists", "step"] (spX K g_step)) (C2 : Cal P w K mg base "_law_step" 1 ["_law_twists_here", "_law_word", "_law_at"] (spR K g_law_step)) (C3 : Cal P w K mg base "_law_told" 4 ["_law_twists_here", "_law_one"] (spR K g_law_told)) : FnOk P w K mg base CX0 5 f fd ["_law_twists_here", "_law_one"] (spR K g_law_good) := by
  refine fn_ro (T := t__law_good) F sc__law_good rfl (by decide) (fun ds kk h => ?_) (b__law_good B C1 C2 C3) (fun ds kk h => ?_)
  · obtain ⟨l, v, a, rfl, _⟩ := h
    rfl
  · obtain ⟨l, v, a, rfl, hl, k⟩ := h
    simp only [w__law_good, wSeq, wSet, wCall, wCons, env0, List.map_cons, List.map_nil, List.length_cons, List.length_nil, Nat.zero_add, Nat.reduceAdd, List.replicate, List.cons_append, List.nil_append, wNil, wBin, wC, wIf, wRet, wNext, r_var, wOr, wNot, wTka, r_andV, calmG, reduceIte, r_tru, r_isi, isiD, r_truB, r_bl, look, List.set_cons_succ, List.set_cons_zero, oget_s, r_ixT, atI_1, List.getElem?_cons_succ, List.getElem?_cons_zero, atI_0, r_listL, pI, r_eqL, r_neL, r_blOf, Bool.false_eq_true, true_and]
    refine ⟨l, v, a, rfl, hl, ?_⟩
    simp only []
    refine ⟨l, v, a, rfl, hl, ?_⟩
    simp only [eq9, true_implies, ne_eq, not_true_eq_false, false_implies, and_true, true_and]
    rcases hs : stpI l v a with _ | ⟨q, x⟩
    · simp only [rsD, tdD, r_eqS, decide_true, oget_s, r14_isN, r_blOf, reduceIte]
      exact k
    · have e9 : eqOk 9 (.tup [.lst (I q), .int x]) = true := by
        show eqOks 8 [D.lst (I q), D.int x] = true
        simp only [eqOks, eqOk, Bool.and_true]
        exact eqOks_map fun _ _ => rfl
      simp only [rsD, tdD, r_eqT, e9, ne_eq, true_and, BEq.rfl, pI, pureL, D.pure, Bool.and_self, r_ixT, atI_1, List.getElem?_cons_succ, List.getElem?_cons_zero, oget_s, atI_0, Bool.not_true, Bool.false_eq_true, reduceIte, r_neT, r_blOf, true_implies, not_true_eq_false, false_implies, and_true, r14_isO]
      rw [if_neg (by decide)]
      have hq := stp_len hl hs
      refine ⟨small (by simp; omega), l, v, a, rfl, hl, ?_⟩
      rw [hs]
      simp only [r_eqT, e9, r_blOf, reduceIte, true_implies, ne_eq, not_true_eq_false, Bool.false_eq_true, false_implies, and_true, true_and]
      exact k
noncomputable def g_law : GA := fun ds k => ∃ ns : List Int, ds = [.kls (ns.map .int)] ∧ ns.length ≤ 63 ∧ k (.bl true)
noncomputable abbrev s_law : Stmt := top 31
theorem sc_law : FnScope ["_law_script", "_law_twists_here", "_law_spots", "_law_word", "_law_at"] ["_law_script"] (defScope s_law) := ⟨rfl, rfl, rfl, by decide +kernel, rfl, by decide +kernel, by decide +kernel⟩
noncomputable def t_law : Tg := { own := fun i => i == 1 || i == 2 || i == 3 || i == 4, io := [] }
noncomputable def w_law : WS := (wSeq (wSet 1 (wCall g_law_twists (wCons (wSlT (wSlT (wBin dAddT (wSlT (wVar 0) (wSome (wC (.int 1))) (wSome (wC (.int 13)))) (wLst (wCons (wC (.int 0)) wNil))) wNone (wSome (wCall dMax2 (wCons (wC (.int 1)) (wCons (wBin dSub (wCall dLen (wCons (wVar 0) wNil)) (wC (.int 1))) wNil))))) wNone (wSome (wC (.int 12)))) (wCons (wC (.int 40)) wNil))))
  (wSeq (wSet 2 (wFrz (wBin dAddT (wCall dRange2 (wCons (wUn dNeg (wC (.int 2))) (wCons (wBin dAddT (wCall dLen (wCons (wVar 1) wNil)) (wC (.int 2))) wNil))) (wLst (wCons (wBin dAddT (wBin dPow (wC (.int 10)) (wC (.int 12))) (wBin dMod (wCall g_law_cell_at (wCons (wVar 0) (wCons (wC (.int 0)) wNil))) (wBin dPow (wC (.int 10)) (wC (.int 12))))) wNil)))))
  (wSeq (wFor (wSeqD (wLst (wCons (wC (.str (Str.ofString "one"))) (wCons (wC (.str (Str.ofString "less"))) (wCons (wC (.str (Str.ofString "nought"))) (wCons (wC (.str (Str.ofString "loose"))) (wCons (wC (.str (Str.ofString "split"))) (wCons (wC (.str (Str.ofString "two"))) wNil)))))))) (gN 3) (wFor (wSeqF (wVar 2)) (gN 4) (wIf (wNot (wTru (wCall g_law_good (wCons (wVar 1) (wCons (wTup (wCons (wVar 3) (wCons (wVar 4) wNil))) wNil))))) (wRet (wC (.bl false))) wNext)))
  (wRet (wC (.bl true))))))
theorem b_law {P : Program} {w : World} {K : PySem.W.Frag} {mg : Str → Option Value} {base : Heap} {f : Addr} (B : Bn K mg) (C__law_cell_at : Cal P w K mg base "_law_cell_at" 1 ["_law_script", "_law_k"] (spR K g_law_cell_at)) (C__law_twists : Cal P w K mg base "_law_twists" 1 ["_law_cells", "_law_most"] (spR K g_law_twists)) (C__law_good : Cal P w K mg base "_law_good" 5 ["_law_twists_here", "_law_one"] (spR K g_law_good)) : ∀ (cdv : Value) (A : Around) (outer : List PySem.Env) (s : Shared) (H : Hp) (E : XK), Room 5 (A.deeper (envOfC "law" (defScope s_law) s.heap.objs.size f cdv)) → SVs (cxOf CX0 P w K mg base ["_law_script", "_law_twists_here", "_law_spots", "_law_word", "_law_at"] "law" (defScope s_law) f cdv A outer s H E).nox t_law (defBody s_law) w_law := fun cdv A outer s H E hr =>
    (svs_cons (sv_set (i := 1) (ev_callC C__law_twists (hr.mono (by decide)) (av_cons (ev_slT (ev_slT (ev_op od_addT (ev_slT (ev_var 0) (ov_some ev_int) (ov_some ev_int)) (ev_lst (av_cons ev_int av_nil))) ov_none (ov_some (ev_callB (cd_max2 rfl) B.nb_max bt_max (av_cons ev_int (av_cons (ev_op od_sub (ev_callB cd_len B.nb_len bt_len (av_cons (ev_var 0) av_nil)) ev_int) av_nil))))) ov_none (ov_some ev_int)) (av_cons ev_int av_nil))) sc_law.nd)
    (svs_cons (sv_set (i := 2) (ev_frz (ev_op od_addT (ev_listRange2 B.nb_range B.nb_list (av_cons (ev_un ud_neg ev_int) (av_cons (ev_op od_addT (ev_callB cd_len B.nb_len bt_len (av_cons (ev_var 1) av_nil)) ev_int) av_nil))) (ev_lst (av_cons (ev_op od_addT (ev_op od_pow ev_int ev_int) (ev_op od_mod (ev_callC C__law_cell_at (hr.mono (by decide)) (av_cons (ev_var 0) (av_cons ev_int av_nil))) (ev_op od_pow ev_int ev_int))) av_nil)))) sc_law.nd)
    (svs_cons (sv_for PassesOwn.never (iv_seq (ev_lst (av_cons ev_str (av_cons ev_str (av_cons ev_str (av_cons ev_str (av_cons ev_str (av_cons ev_str av_nil)))))))) (gv_name (i := 3) sc_law.nd) (svs_one (sv_for PassesOwn.never (iv_fls (ev_var 2)) (gv_name (i := 4) sc_law.nd) (svs_one (sv_if (tv_not (tv_tru (ev_callC C__law_good (hr.mono (by decide)) (av_cons (ev_var 1) (av_cons (ev_tup (av_cons (ev_var 3) (av_cons (ev_var 4) av_nil))) av_nil))))) (svs_one (sv_ret ev_bl)) svs_nil)))))
    (svs_one (sv_ret ev_bl)))))
theorem ok_law {P : Program} {w : World} {K : PySem.W.Frag} {mg : Str → Option Value} {base : Heap} {f : Addr} {fd : FuncData} (F : Fun K "law" "law" s_law f fd) (B : Bn K mg) (C1 : Cal P w K mg base "_law_cell_at" 1 ["_law_script", "_law_k"] (spR K g_law_cell_at)) (C2 : Cal P w K mg base "_law_twists" 1 ["_law_cells", "_law_most"] (spR K g_law_twists)) (C3 : Cal P w K mg base "_law_good" 5 ["_law_twists_here", "_law_one"] (spR K g_law_good)) : FnOk P w K mg base CX0 6 f fd ["_law_script"] (spR K g_law) := by
  refine fn_ro (T := t_law) F sc_law rfl (by decide) (fun ds kk h => ?_) (b_law B C1 C2 C3) (fun ds kk h => ?_)
  · obtain ⟨ns, rfl, _⟩ := h
    rfl
  · obtain ⟨ns, rfl, hns, k⟩ := h
    simp only [w_law, wSeq, wSet, wCall, wCons, wSlT, wBin, env0, List.map_cons, List.map_nil, List.length_cons, List.length_nil, Nat.zero_add, Nat.reduceAdd, List.replicate, List.cons_append, List.nil_append, wLst, wC, wNil, sz1, wNone, wFrz, wUn, r_for, r_seq, r_seqL, pureL, D.pure, Bool.and_self, true_and, Int.reduceLE, Int.reduceNeg, Int.reduceLT, r_powP, Int.reduceToNat, Int.reducePow, r_var, r_neg, r_some, r_intOf, look, List.set_cons_succ, List.set_cons_zero, oget_s, r_lenK, List.length_map, r_sub, r_max, r2_slK, pure_ints, r2_addL, r2_slL]
    obtain ⟨c1, e1, l1⟩ := cut_ints (ns := ns) (lo := some 1) (hi := some 13)
    have e1' : cutD (List.map D.int ns) (some 1) (some 13) = I c1 := e1
    have e2 : I c1 ++ [D.int 0] = I (c1 ++ [0]) := by simp
    rw [e1', e2]
    generalize (if (ns.length : Int) - 1 > 1 then (ns.length : Int) - 1 else 1) = hi
    obtain ⟨c2, e3, l2⟩ := cut_ints (ns := c1 ++ [0]) (lo := none) (hi := some hi)
    rw [e3]
    have e4 : cutD (I c2) none (some 12) = I (c2.take 12) := by
      have := cut_to (ds := I c2) (b := 12)
      rw [show ((12 : Nat) : Int) = 12 from rfl] at this
      rw [this]
      exact (List.map_take ..).symm
    rw [e4]
    have l3 : (c2.take 12).length ≤ 12 := by rw [List.length_take]; omega
    refine ⟨pI, Nat.le_of_lt (small (by simp; omega)), pI, pI, c2.take 12, rfl, by omega, fun ts hts _ => ?_⟩
    have tl : ts.length ≤ 12 := by omega
    simp only [Int.reduceNeg, r_lenL, List.length_map, r2_add, r13_range2, Int.reduceLE, r2_addL, pureL, Bool.and_true, List.length_cons, List.length_nil, Nat.zero_add, r9_frz, true_and]
    refine ⟨by omega, by omega, by omega, ns, 0, rfl, fun c => ?_⟩
    have hm : (0 : Int) < 1000000000000 := by decide
    simp only [Int.reduceNeg, hm, r_modP, r2_add, D.pure, true_and]
    have pr : pureL (rngD (-2) ((ts.length : Int) + 2 - -2).toNat) = true := pure_rngD
    refine ⟨pr, Nat.le_of_lt (small (by rw [rngD_length]; omega)), pc pr rfl, by decide, ?_⟩
    have hin : ∀ d ∈ rngD (-2) ((ts.length : Int) + 2 - -2).toNat ++ [D.int (1000000000000 + c % 1000000000000)], ∃ n : Int, d = .int n := fun d hd => by
      rcases List.mem_append.mp hd with h | h
      · obtain ⟨i, _, rfl⟩ := List.mem_map.mp h
        exact ⟨_, rfl⟩
      · exact ⟨_, List.mem_singleton.mp h⟩
    generalize rngD (-2) ((ts.length : Int) + 2 - -2).toNat ++ [D.int (1000000000000 + c % 1000000000000)] = sp at hin ⊢
    refine ⟨fun _ ρ => ∃ o3 o4 : Option D, ρ = [some (.kls (ns.map .int)), some (.lst (ts.map .int)), some (.fls sp), o3, o4], ⟨none, none, rfl⟩, ?_, ?_⟩
    · rintro i d ρ hd ⟨o3, o4, rfl⟩
      obtain ⟨v, rfl⟩ : ∃ v : Str, d = .str v := by
        have := List.mem_of_getElem? hd
        simp only [List.mem_cons, List.mem_nil_iff, or_false] at this
        rcases this with h | h | h | h | h | h <;> exact ⟨_, h⟩
      simp only [gN, List.set_cons_succ, List.set_cons_zero, r_for, wSeqF, r_var, look, oget_s, r9_fls]
      have ps : pureL sp = true := pureL_iff.mpr fun d hd => by obtain ⟨n, rfl⟩ := hin d hd; rfl
      refine ⟨ps, fun _ ρ => ∃ o4 : Option D, ρ = [some (.kls (ns.map .int)), some (.lst (ts.map .int)), some (.fls sp), some (.str v), o4], ⟨o4, rfl⟩, ?_, ?_⟩
      · rintro i d ρ hd ⟨o4, rfl⟩
        obtain ⟨n, rfl⟩ := hin d (List.mem_of_getElem? hd)
        simp only [gN, wIf, wNot, List.set_cons_succ, List.set_cons_zero, wRet, wC, wNext, r_tru, wCall, wCons, wTup, wNil, List.length_cons, List.length_nil, Nat.zero_add, Nat.reduceAdd, sz2, true_and, r_var, look, oget_s]
        refine ⟨ts, v, n, rfl, by omega, ?_⟩
        simp only [r_truB, Bool.not_true, Bool.false_eq_true, reduceIte]
        exact ⟨_, rfl⟩
      · rintro ρ ⟨o4, rfl⟩
        exact ⟨_, _, rfl⟩
    · rintro ρ ⟨o3, o4, rfl⟩
      simp only [wRet, wC]
      exact k
end K68
set_option Elab.async false
set_option linter.all false
set_option maxRecDepth 100000
set_option maxHeartbeats 4000000
namespace K68
open PySem PySem.Spec L2 PV
open PyProof.Rows (envOfC)
theorem all_mk {l : PySem.W.OpenLaw} {w : World} {K : PySem.W.Frag} {h : Heap} {mg : Str → Option Value} {fa : Addr} (X : K.In h) (G : h.Ns mainGlobals mg) (hfa : mg "law" = some (.ref fa))
    {f1 : Addr} {od1 an1 : Option Addr} {sl1 : Array (Option Value)} {oc1 kV1 dc1 pm1 cd1 ct1 : Value}
    (a1 : PySem.W.nsIn K mainGlobals "is_whole" = some (some (.ref f1))) (l1 : K.lookup f1 = some ⟨oc1, od1, .func (PySem.W.fnOf "is_whole" "is_whole" (defArgs s_is_whole) (defBody s_is_whole) (defScope s_is_whole) .none kV1 dc1 pm1 an1 cd1 ct1), sl1⟩) (c1 : PySem.W.codeIn K cd1 "is_whole" = true) (k1 : PySem.W.keepIn K (.ref f1) = true)
    {f2 : Addr} {od2 an2 : Option Addr} {sl2 : Array (Option Value)} {oc2 kV2 dc2 pm2 cd2 ct2 : Value}
    (a2 : PySem.W.nsIn K mainGlobals "is_placed" = some (some (.ref f2))) (l2 : K.lookup f2 = some ⟨oc2, od2, .func (PySem.W.fnOf "is_placed" "is_placed" (defArgs s_is_placed) (defBody s_is_placed) (defScope s_is_placed) .none kV2 dc2 pm2 an2 cd2 ct2), sl2⟩) (c2 : PySem.W.codeIn K cd2 "is_placed" = true) (k2 : PySem.W.keepIn K (.ref f2) = true)
    {f3 : Addr} {od3 an3 : Option Addr} {sl3 : Array (Option Value)} {oc3 kV3 dc3 pm3 cd3 ct3 : Value}
    (a3 : PySem.W.nsIn K mainGlobals "without_number" = some (some (.ref f3))) (l3 : K.lookup f3 = some ⟨oc3, od3, .func (PySem.W.fnOf "without_number" "without_number" (defArgs s_without_number) (defBody s_without_number) (defScope s_without_number) .none kV3 dc3 pm3 an3 cd3 ct3), sl3⟩) (c3 : PySem.W.codeIn K cd3 "without_number" = true) (k3 : PySem.W.keepIn K (.ref f3) = true)
    {f4 : Addr} {od4 an4 : Option Addr} {sl4 : Array (Option Value)} {oc4 kV4 dc4 pm4 cd4 ct4 : Value}
    (a4 : PySem.W.nsIn K mainGlobals "can_be_nought" = some (some (.ref f4))) (l4 : K.lookup f4 = some ⟨oc4, od4, .func (PySem.W.fnOf "can_be_nought" "can_be_nought" (defArgs s_can_be_nought) (defBody s_can_be_nought) (defScope s_can_be_nought) .none kV4 dc4 pm4 an4 cd4 ct4), sl4⟩) (c4 : PySem.W.codeIn K cd4 "can_be_nought" = true) (k4 : PySem.W.keepIn K (.ref f4) = true)
    {f5 : Addr} {od5 an5 : Option Addr} {sl5 : Array (Option Value)} {oc5 kV5 dc5 pm5 cd5 ct5 : Value}
    (a5 : PySem.W.nsIn K mainGlobals "without_nought" = some (some (.ref f5))) (l5 : K.lookup f5 = some ⟨oc5, od5, .func (PySem.W.fnOf "without_nought" "without_nought" (defArgs s_without_nought) (defBody s_without_nought) (defScope s_without_nought) .none kV5 dc5 pm5 an5 cd5 ct5), sl5⟩) (c5 : PySem.W.codeIn K cd5 "without_nought" = true) (k5 : PySem.W.keepIn K (.ref f5) = true)
    {f6 : Addr} {od6 an6 : Option Addr} {sl6 : Array (Option Value)} {oc6 kV6 dc6 pm6 cd6 ct6 : Value}
    (a6 : PySem.W.nsIn K mainGlobals "split_number" = some (some (.ref f6))) (l6 : K.lookup f6 = some ⟨oc6, od6, .func (PySem.W.fnOf "split_number" "split_number" (defArgs s_split_number) (defBody s_split_number) (defScope s_split_number) .none kV6 dc6 pm6 an6 cd6 ct6), sl6⟩) (c6 : PySem.W.codeIn K cd6 "split_number" = true) (k6 : PySem.W.keepIn K (.ref f6) = true)
    {f7 : Addr} {od7 an7 : Option Addr} {sl7 : Array (Option Value)} {oc7 kV7 dc7 pm7 cd7 ct7 : Value}
    (a7 : PySem.W.nsIn K mainGlobals "step" = some (some (.ref f7))) (l7 : K.lookup f7 = some ⟨oc7, od7, .func (PySem.W.fnOf "step" "step" (defArgs s_step) (defBody s_step) (defScope s_step) .none kV7 dc7 pm7 an7 cd7 ct7), sl7⟩) (c7 : PySem.W.codeIn K cd7 "step" = true) (k7 : PySem.W.keepIn K (.ref f7) = true)
    {f8 : Addr} {od8 an8 : Option Addr} {sl8 : Array (Option Value)} {oc8 kV8 dc8 pm8 cd8 ct8 : Value}
    (a8 : PySem.W.nsIn K mainGlobals "_law_cell_at" = some (some (.ref f8))) (l8 : K.lookup f8 = some ⟨oc8, od8, .func (PySem.W.fnOf "_law_cell_at" "_law_cell_at" (defArgs s__law_cell_at) (defBody s__law_cell_at) (defScope s__law_cell_at) .none kV8 dc8 pm8 an8 cd8 ct8), sl8⟩) (c8 : PySem.W.codeIn K cd8 "_law_cell_at" = true) (k8 : PySem.W.keepIn K (.ref f8) = true)
    {f9 : Addr} {od9 an9 : Option Addr} {sl9 : Array (Option Value)} {oc9 kV9 dc9 pm9 cd9 ct9 : Value}
    (a9 : PySem.W.nsIn K mainGlobals "_law_twists" = some (some (.ref f9))) (l9 : K.lookup f9 = some ⟨oc9, od9, .func (PySem.W.fnOf "_law_twists" "_law_twists" (defArgs s__law_twists) (defBody s__law_twists) (defScope s__law_twists) .none kV9 dc9 pm9 an9 cd9 ct9), sl9⟩) (c9 : PySem.W.codeIn K cd9 "_law_twists" = true) (k9 : PySem.W.keepIn K (.ref f9) = true)
    {f10 : Addr} {od10 an10 : Option Addr} {sl10 : Array (Option Value)} {oc10 kV10 dc10 pm10 cd10 ct10 : Value}
    (a10 : PySem.W.nsIn K mainGlobals "_law_step" = some (some (.ref f10))) (l10 : K.lookup f10 = some ⟨oc10, od10, .func (PySem.W.fnOf "_law_step" "_law_step" (defArgs s__law_step) (defBody s__law_step) (defScope s__law_step) .none kV10 dc10 pm10 an10 cd10 ct10), sl10⟩) (c10 : PySem.W.codeIn K cd10 "_law_step" = true) (k10 : PySem.W.keepIn K (.ref f10) = true)
    {f11 : Addr} {od11 an11 : Option Addr} {sl11 : Array (Option Value)} {oc11 kV11 dc11 pm11 cd11 ct11 : Value}
    (a11 : PySem.W.nsIn K mainGlobals "_law_told" = some (some (.ref f11))) (l11 : K.lookup f11 = some ⟨oc11, od11, .func (PySem.W.fnOf "_law_told" "_law_told" (defArgs s__law_told) (defBody s__law_told) (defScope s__law_told) .none kV11 dc11 pm11 an11 cd11 ct11), sl11⟩) (c11 : PySem.W.codeIn K cd11 "_law_told" = true) (k11 : PySem.W.keepIn K (.ref f11) = true)
    {f12 : Addr} {od12 an12 : Option Addr} {sl12 : Array (Option Value)} {oc12 kV12 dc12 pm12 cd12 ct12 : Value}
    (a12 : PySem.W.nsIn K mainGlobals "_law_good" = some (some (.ref f12))) (l12 : K.lookup f12 = some ⟨oc12, od12, .func (PySem.W.fnOf "_law_good" "_law_good" (defArgs s__law_good) (defBody s__law_good) (defScope s__law_good) .none kV12 dc12 pm12 an12 cd12 ct12), sl12⟩) (c12 : PySem.W.codeIn K cd12 "_law_good" = true) (k12 : PySem.W.keepIn K (.ref f12) = true)
    {f13 : Addr} {od13 an13 : Option Addr} {sl13 : Array (Option Value)} {oc13 kV13 dc13 pm13 cd13 ct13 : Value}
    (a13 : PySem.W.nsIn K mainGlobals "law" = some (some (.ref f13))) (l13 : K.lookup f13 = some ⟨oc13, od13, .func (PySem.W.fnOf "law" "law" (defArgs s_law) (defBody s_law) (defScope s_law) .none kV13 dc13 pm13 an13 cd13 ct13), sl13⟩) (c13 : PySem.W.codeIn K cd13 "law" = true) (k13 : PySem.W.keepIn K (.ref f13) = true)
    (z_abs : PySem.W.nsIn K mainGlobals "abs" = some none)
    (z_bool : PySem.W.nsIn K mainGlobals "bool" = some none)
    (z_int : PySem.W.nsIn K mainGlobals "int" = some none)
    (z_isinstance : PySem.W.nsIn K mainGlobals "isinstance" = some none)
    (z_len : PySem.W.nsIn K mainGlobals "len" = some none)
    (z_list : PySem.W.nsIn K mainGlobals "list" = some none)
    (z_max : PySem.W.nsIn K mainGlobals "max" = some none)
    (z_range : PySem.W.nsIn K mainGlobals "range" = some none)
    (z_tuple : PySem.W.nsIn K mainGlobals "tuple" = some none)
    {C_NoStep : Addr} {cd_NoStep : ClassData} (zx_NoStep : atN K "NoStep" C_NoStep) (zc_NoStep : PySem.W.clsIn K C_NoStep = some cd_NoStep) (zt_NoStep : PySem.W.typeIn K (.ref C_NoStep) = some (.type "type"))
    {C_TangleError : Addr} {cd_TangleError : ClassData} (zx_TangleError : atN K "TangleError" C_TangleError) (zc_TangleError : PySem.W.clsIn K C_TangleError = some cd_TangleError) (zt_TangleError : PySem.W.typeIn K (.ref C_TangleError) = some (.type "type"))
    (zs_TangleError : PySem.W.subIn K (.ref C_NoStep) (.ref C_TangleError) = some true) (zn_TangleError : (Value.ref C_NoStep == Value.ref C_TangleError) = false)
    {C_BadPace : Addr} {cd_BadPace : ClassData} (zx_BadPace : atN K "BadPace" C_BadPace) (zc_BadPace : PySem.W.clsIn K C_BadPace = some cd_BadPace) (zt_BadPace : PySem.W.typeIn K (.ref C_BadPace) = some (.type "type"))
    (zs_BadPace : PySem.W.subIn K (.ref C_NoStep) (.ref C_BadPace) = some false) (zn_BadPace : (Value.ref C_NoStep == Value.ref C_BadPace) = false)
    {C_NoMatch : Addr} {cd_NoMatch : ClassData} (zx_NoMatch : atN K "NoMatch" C_NoMatch) (zc_NoMatch : PySem.W.clsIn K C_NoMatch = some cd_NoMatch) (zt_NoMatch : PySem.W.typeIn K (.ref C_NoMatch) = some (.type "type"))
    (zs_NoMatch : PySem.W.subIn K (.ref C_NoStep) (.ref C_NoMatch) = some false) (zn_NoMatch : (Value.ref C_NoStep == Value.ref C_NoMatch) = false)
    {C_NoName : Addr} {cd_NoName : ClassData} (zx_NoName : atN K "NoName" C_NoName) (zc_NoName : PySem.W.clsIn K C_NoName = some cd_NoName) (zt_NoName : PySem.W.typeIn K (.ref C_NoName) = some (.type "type"))
    (zs_NoName : PySem.W.subIn K (.ref C_NoStep) (.ref C_NoName) = some false) (zn_NoName : (Value.ref C_NoStep == Value.ref C_NoName) = false)
    {C_NoRow : Addr} {cd_NoRow : ClassData} (zx_NoRow : atN K "NoRow" C_NoRow) (zc_NoRow : PySem.W.clsIn K C_NoRow = some cd_NoRow) (zt_NoRow : PySem.W.typeIn K (.ref C_NoRow) = some (.type "type"))
    (zs_NoRow : PySem.W.subIn K (.ref C_NoStep) (.ref C_NoRow) = some false) (zn_NoRow : (Value.ref C_NoStep == Value.ref C_NoRow) = false)
    {C_NoText : Addr} {cd_NoText : ClassData} (zx_NoText : atN K "NoText" C_NoText) (zc_NoText : PySem.W.clsIn K C_NoText = some cd_NoText) (zt_NoText : PySem.W.typeIn K (.ref C_NoText) = some (.type "type"))
    (zs_NoText : PySem.W.subIn K (.ref C_NoStep) (.ref C_NoText) = some false) (zn_NoText : (Value.ref C_NoStep == Value.ref C_NoText) = false)
    {C_NoTurning : Addr} {cd_NoTurning : ClassData} (zx_NoTurning : atN K "NoTurning" C_NoTurning) (zc_NoTurning : PySem.W.clsIn K C_NoTurning = some cd_NoTurning) (zt_NoTurning : PySem.W.typeIn K (.ref C_NoTurning) = some (.type "type"))
    (zs_NoTurning : PySem.W.subIn K (.ref C_NoStep) (.ref C_NoTurning) = some false) (zn_NoTurning : (Value.ref C_NoStep == Value.ref C_NoTurning) = false)
    {C_NotFlat : Addr} {cd_NotFlat : ClassData} (zx_NotFlat : atN K "NotFlat" C_NotFlat) (zc_NotFlat : PySem.W.clsIn K C_NotFlat = some cd_NotFlat) (zt_NotFlat : PySem.W.typeIn K (.ref C_NotFlat) = some (.type "type"))
    (zs_NotFlat : PySem.W.subIn K (.ref C_NoStep) (.ref C_NotFlat) = some false) (zn_NotFlat : (Value.ref C_NoStep == Value.ref C_NotFlat) = false)
    {C_NoWeb : Addr} {cd_NoWeb : ClassData} (zx_NoWeb : atN K "NoWeb" C_NoWeb) (zc_NoWeb : PySem.W.clsIn K C_NoWeb = some cd_NoWeb) (zt_NoWeb : PySem.W.typeIn K (.ref C_NoWeb) = some (.type "type"))
    (zs_NoWeb : PySem.W.subIn K (.ref C_NoStep) (.ref C_NoWeb) = some false) (zn_NoWeb : (Value.ref C_NoStep == Value.ref C_NoWeb) = false)
    {C_Odd : Addr} {cd_Odd : ClassData} (zx_Odd : atN K "Odd" C_Odd) (zc_Odd : PySem.W.clsIn K C_Odd = some cd_Odd) (zt_Odd : PySem.W.typeIn K (.ref C_Odd) = some (.type "type"))
    (zs_Odd : PySem.W.subIn K (.ref C_NoStep) (.ref C_Odd) = some false) (zn_Odd : (Value.ref C_NoStep == Value.ref C_Odd) = false)
    {C_TooMany : Addr} {cd_TooMany : ClassData} (zx_TooMany : atN K "TooMany" C_TooMany) (zc_TooMany : PySem.W.clsIn K C_TooMany = some cd_TooMany) (zt_TooMany : PySem.W.typeIn K (.ref C_TooMany) = some (.type "type"))
    (zs_TooMany : PySem.W.subIn K (.ref C_NoStep) (.ref C_TooMany) = some false) (zn_TooMany : (Value.ref C_NoStep == Value.ref C_TooMany) = false)
    {C_TooWide : Addr} {cd_TooWide : ClassData} (zx_TooWide : atN K "TooWide" C_TooWide) (zc_TooWide : PySem.W.clsIn K C_TooWide = some cd_TooWide) (zt_TooWide : PySem.W.typeIn K (.ref C_TooWide) = some (.type "type"))
    (zs_TooWide : PySem.W.subIn K (.ref C_NoStep) (.ref C_TooWide) = some false) (zn_TooWide : (Value.ref C_NoStep == Value.ref C_TooWide) = false)
    (zb_TangleError : PySem.W.subIn K (.ref C_TangleError) (.type "BaseException") = some true)
    {nm_ q_ : Str} {bs_ sub_ : List Value} {N_ : Addr} {hd_ ab_ : Bool} {sn_ : List Str} {col_ : Option Bool} {dd_ dd2_ od1_ od2_ : Option Addr} {k0_ k1_ k2_ k3_ k5_ : Option Value} {c0_ oc1_ oc2_ : Value} {cdT_ : ClassData} {slT_ sl1_ sl2_ : Array (Option Value)} {es1_ es2_ : Array DictEntry} {ep1_ ep2_ : Nat}
    (xl1 : K.lookup C_NoStep = some (excClassObj nm_ q_ C_NoStep N_ bs_ (.ref C_TangleError :: [.type "ValueError", .type "Exception", .type "BaseException", .type "object"]) hd_ sn_ sub_ ab_ col_ dd_ k0_ k1_ k2_ k3_ k5_ "ValueError.__new__")) (xl2 : K.lookup C_TangleError = some ⟨c0_, dd2_, .cls cdT_, slT_⟩) (xn1 : K.lookup N_ = some ⟨oc1_, od1_, .dict es1_ ep1_, sl1_⟩) (xn2 : K.lookup cdT_.ns = some ⟨oc2_, od2_, .dict es2_ ep2_, sl2_⟩) (xs1 : strKeysB es1_ = true) (xs2 : strKeysB es2_ = true) (xi1 : nsFind es1_ "__init__" = none) (xi2 : nsFind es2_ "__init__" = none)
    (xq1 : PySem.W.findIn K (.ref C_NoStep) "__getattribute__" = some (some (.builtin "BaseException.__getattribute__"))) (xq2 : PySem.W.findIn K (.ref C_NoStep) "__getattr__" = some none) (xq3 : PySem.W.findIn K (.ref C_NoStep) "__class__" = some (some (.builtin "object.__class__"))) (xq4 : PySem.W.subIn K (.ref C_NoStep) (.type "object") = some true) (xq5 : PySem.W.subIn K (.ref C_NoStep) (.type "BaseException") = some true)
    (zV : PySem.W.nsIn K mainGlobals "ValueError" = some none) (zVs : PySem.W.subIn K (.ref C_NoStep) (.type "ValueError") = some true)
    : ∃ fd : FuncData, (∀ (s : Shared) (v : Value), BindsTo s fd ⟨[v], []⟩ [("_law_script", v)]) ∧ ∀ base : Heap, K.In base → base.Ns mainGlobals mg → FnOk l.prog w K mg base CX0 6 fa fd ["_law_script"] (spR K g_law) := by
  have e := hfa.symm.trans (PySem.W.mg_of X G a13)
  cases e
  have xQ : ExcQ K C_NoStep := ⟨xq1, xq2, xq3, xq4, xq5, by rw [zc_NoStep]; rfl⟩
  have xR : ∀ C, atN K "NoStep" C → C = C_NoStep := fun C h => by have := h.symm.trans zx_NoStep; cases this; rfl
  have B : Bn K mg := ⟨PySem.W.mg_none_of X G z_abs, PySem.W.mg_none_of X G z_bool, PySem.W.mg_none_of X G z_int, PySem.W.mg_none_of X G z_isinstance, PySem.W.mg_none_of X G z_len, PySem.W.mg_none_of X G z_list, PySem.W.mg_none_of X G z_max, PySem.W.mg_none_of X G z_range, PySem.W.mg_none_of X G z_tuple, ⟨C_NoStep, excK_mk (PySem.W.mg_of X G zx_NoStep) xl1 xl2 xn1 xn2 xs1 xs2 xi1 xi2, zx_NoStep⟩, ⟨C_TangleError, PySem.W.mg_of X G zx_TangleError, fun x C h1 h2 => by obtain rfl := of_decide_eq_true h1; obtain rfl := xR C h2; exact exm_of zb_TangleError zc_TangleError zt_TangleError zs_TangleError⟩, ⟨C_NoStep, PySem.W.mg_of X G zx_NoStep, fun x k R h1 h2 => by obtain rfl := isT_val h1; obtain rfl := isT_name h1; obtain rfl := xR R h2; exact ⟨xQ, kit_same⟩⟩, ⟨C_BadPace, PySem.W.mg_of X G zx_BadPace, fun x k R h1 h2 => by obtain rfl := isT_val h1; obtain rfl := isT_name h1; obtain rfl := xR R h2; exact ⟨xQ, kit_cls2 zn_BadPace zc_BadPace zt_BadPace zs_BadPace⟩⟩, ⟨C_NoMatch, PySem.W.mg_of X G zx_NoMatch, fun x k R h1 h2 => by obtain rfl := isT_val h1; obtain rfl := isT_name h1; obtain rfl := xR R h2; exact ⟨xQ, kit_cls2 zn_NoMatch zc_NoMatch zt_NoMatch zs_NoMatch⟩⟩, ⟨C_NoName, PySem.W.mg_of X G zx_NoName, fun x k R h1 h2 => by obtain rfl := isT_val h1; obtain rfl := isT_name h1; obtain rfl := xR R h2; exact ⟨xQ, kit_cls2 zn_NoName zc_NoName zt_NoName zs_NoName⟩⟩, ⟨C_NoRow, PySem.W.mg_of X G zx_NoRow, fun x k R h1 h2 => by obtain rfl := isT_val h1; obtain rfl := isT_name h1; obtain rfl := xR R h2; exact ⟨xQ, kit_cls2 zn_NoRow zc_NoRow zt_NoRow zs_NoRow⟩⟩, ⟨C_NoText, PySem.W.mg_of X G zx_NoText, fun x k R h1 h2 => by obtain rfl := isT_val h1; obtain rfl := isT_name h1; obtain rfl := xR R h2; exact ⟨xQ, kit_cls2 zn_NoText zc_NoText zt_NoText zs_NoText⟩⟩, ⟨C_NoTurning, PySem.W.mg_of X G zx_NoTurning, fun x k R h1 h2 => by obtain rfl := isT_val h1; obtain rfl := isT_name h1; obtain rfl := xR R h2; exact ⟨xQ, kit_cls2 zn_NoTurning zc_NoTurning zt_NoTurning zs_NoTurning⟩⟩, ⟨C_NotFlat, PySem.W.mg_of X G zx_NotFlat, fun x k R h1 h2 => by obtain rfl := isT_val h1; obtain rfl := isT_name h1; obtain rfl := xR R h2; exact ⟨xQ, kit_cls2 zn_NotFlat zc_NotFlat zt_NotFlat zs_NotFlat⟩⟩, ⟨C_NoWeb, PySem.W.mg_of X G zx_NoWeb, fun x k R h1 h2 => by obtain rfl := isT_val h1; obtain rfl := isT_name h1; obtain rfl := xR R h2; exact ⟨xQ, kit_cls2 zn_NoWeb zc_NoWeb zt_NoWeb zs_NoWeb⟩⟩, ⟨C_Odd, PySem.W.mg_of X G zx_Odd, fun x k R h1 h2 => by obtain rfl := isT_val h1; obtain rfl := isT_name h1; obtain rfl := xR R h2; exact ⟨xQ, kit_cls2 zn_Odd zc_Odd zt_Odd zs_Odd⟩⟩, ⟨C_TooMany, PySem.W.mg_of X G zx_TooMany, fun x k R h1 h2 => by obtain rfl := isT_val h1; obtain rfl := isT_name h1; obtain rfl := xR R h2; exact ⟨xQ, kit_cls2 zn_TooMany zc_TooMany zt_TooMany zs_TooMany⟩⟩, ⟨C_TooWide, PySem.W.mg_of X G zx_TooWide, fun x k R h1 h2 => by obtain rfl := isT_val h1; obtain rfl := isT_name h1; obtain rfl := xR R h2; exact ⟨xQ, kit_cls2 zn_TooWide zc_TooWide zt_TooWide zs_TooWide⟩⟩, ⟨PySem.W.mg_none_of X G zV, fun x k R h1 h2 => by obtain rfl := isT_val h1; obtain rfl := isT_name h1; obtain rfl := xR R h2; exact ⟨xQ, kit_val zVs⟩⟩⟩
  have F1 := fun_mk (st := s_is_whole) l1 c1 k1
  have F2 := fun_mk (st := s_is_placed) l2 c2 k2
  have F3 := fun_mk (st := s_without_number) l3 c3 k3
  have F4 := fun_mk (st := s_can_be_nought) l4 c4 k4
  have F5 := fun_mk (st := s_without_nought) l5 c5 k5
  have F6 := fun_mk (st := s_split_number) l6 c6 k6
  have F7 := fun_mk (st := s_step) l7 c7 k7
  have F8 := fun_mk (st := s__law_cell_at) l8 c8 k8
  have F9 := fun_mk (st := s__law_twists) l9 c9 k9
  have F10 := fun_mk (st := s__law_step) l10 c10 k10
  have F11 := fun_mk (st := s__law_told) l11 c11 k11
  have F12 := fun_mk (st := s__law_good) l12 c12 k12
  have F13 := fun_mk (st := s_law) l13 c13 k13
  refine ⟨PySem.W.fnOf "law" "law" (defArgs s_law) (defBody s_law) (defScope s_law) .none kV13 dc13 pm13 an13 cd13 ct13, fun s v => .of_eq rfl, fun base _ _ => ?_⟩
  have C_is_whole : Cal l.prog w K mg base "is_whole" 1 ["thing"] (spR K g_is_whole) := ⟨f1, _, ok_is_whole F1 B, PySem.W.mg_of X G a1, k1, F1.binds fun _ _ _ _ _ _ us hl => by obtain ⟨_, rfl⟩ := len1 hl; rfl⟩
  have C_is_placed : Cal l.prog w K mg base "is_placed" 2 ["twists", "thing"] (spR K g_is_placed) := ⟨f2, _, ok_is_placed F2 B C_is_whole, PySem.W.mg_of X G a2, k2, F2.binds fun _ _ _ _ _ _ us hl => by obtain ⟨_, _, rfl⟩ := len2 hl; rfl⟩
  have C_without_number : Cal l.prog w K mg base "without_number" 1 ["twists", "at", "many"] (spR K g_without_number) := ⟨f3, _, ok_without_number F3 B, PySem.W.mg_of X G a3, k3, F3.binds fun _ _ _ _ _ _ us hl => by obtain ⟨_, _, _, rfl⟩ := len3 hl; rfl⟩
  have C_can_be_nought : Cal l.prog w K mg base "can_be_nought" 1 ["twists", "at"] (spR K g_can_be_nought) := ⟨f4, _, ok_can_be_nought F4 B, PySem.W.mg_of X G a4, k4, F4.binds fun _ _ _ _ _ _ us hl => by obtain ⟨_, _, rfl⟩ := len2 hl; rfl⟩
  have C_without_nought : Cal l.prog w K mg base "without_nought" 1 ["twists", "at"] (spR K g_without_nought) := ⟨f5, _, ok_without_nought F5 B, PySem.W.mg_of X G a5, k5, F5.binds fun _ _ _ _ _ _ us hl => by obtain ⟨_, _, rfl⟩ := len2 hl; rfl⟩
  have C_split_number : Cal l.prog w K mg base "split_number" 1 ["twists", "at"] (spR K g_split_number) := ⟨f6, _, ok_split_number F6 B, PySem.W.mg_of X G a6, k6, F6.binds fun _ _ _ _ _ _ us hl => by obtain ⟨_, _, rfl⟩ := len2 hl; rfl⟩
  have C_step : CalX l.prog w K mg base "step" 3 ["twists", "step"] (spX K g_step) := ⟨f7, _, ok_step F7 B C_is_placed C_without_number C_can_be_nought C_without_nought C_split_number, PySem.W.mg_of X G a7, k7, F7.binds fun _ _ _ _ _ _ us hl => by obtain ⟨_, _, rfl⟩ := len2 hl; rfl⟩
  have C__law_cell_at : Cal l.prog w K mg base "_law_cell_at" 1 ["_law_script", "_law_k"] (spR K g_law_cell_at) := ⟨f8, _, ok__law_cell_at F8 B, PySem.W.mg_of X G a8, k8, F8.binds fun _ _ _ _ _ _ us hl => by obtain ⟨_, _, rfl⟩ := len2 hl; rfl⟩
  have C__law_twists : Cal l.prog w K mg base "_law_twists" 1 ["_law_cells", "_law_most"] (spR K g_law_twists) := ⟨f9, _, ok__law_twists F9 B, PySem.W.mg_of X G a9, k9, F9.binds fun _ _ _ _ _ _ us hl => by obtain ⟨_, _, rfl⟩ := len2 hl; rfl⟩
  have C__law_step : Cal l.prog w K mg base "_law_step" 1 ["_law_twists_here", "_law_word", "_law_at"] (spR K g_law_step) := ⟨f10, _, ok__law_step F10 B, PySem.W.mg_of X G a10, k10, F10.binds fun _ _ _ _ _ _ us hl => by obtain ⟨_, _, _, rfl⟩ := len3 hl; rfl⟩
  have C__law_told : Cal l.prog w K mg base "_law_told" 4 ["_law_twists_here", "_law_one"] (spR K g_law_told) := ⟨f11, _, ok__law_told F11 B C_step, PySem.W.mg_of X G a11, k11, F11.binds fun _ _ _ _ _ _ us hl => by obtain ⟨_, _, rfl⟩ := len2 hl; rfl⟩
  have C__law_good : Cal l.prog w K mg base "_law_good" 5 ["_law_twists_here", "_law_one"] (spR K g_law_good) := ⟨f12, _, ok__law_good F12 B C_step C__law_step C__law_told, PySem.W.mg_of X G a12, k12, F12.binds fun _ _ _ _ _ _ us hl => by obtain ⟨_, _, rfl⟩ := len2 hl; rfl⟩
  exact ok_law F13 B C__law_cell_at C__law_twists C__law_good
theorem law_sp {K : PySem.W.Frag} {H : Hp} {a : Addr} {ns : List Int} (hl : ns.length ≤ 63) (ho : Only H) (hS : SqL K H a (ns.map V.int)) : spR K g_law [.ref a] H (fun v _ => v = .bl true) fun _ _ _ => False := by
  have fz : FzL K H a (ns.map V.int) := by
    rcases hS with (h | h) | h
    · rcases ho a with z | ⟨o, xs, z⟩
      · rw [z] at h; cases h
      · rw [z] at h; cases h
    · exact .inl h
    · exact .inr h
  refine ⟨[.kls (ns.map .int)], [], fun d => d = .bl true, ?_, ⟨ns, rfl, hl, rfl⟩, fun v H' d F' fi hd => ?_⟩
  · exact .cons (F := []) (G := []) (.kls fz (Reps.ints ns)) .nil
  · subst hd
    exact rep_bl fi.rep
theorem walk {l : PySem.W.OpenLaw} {q : Program} {loose : List Str} {XP : (Str → Option Value) → Heap → Prop} {YP : World → Heap → Prop} {d : DefRec} {K : Params → PySem.W.Frag} (hn : l.most = some 63) (hdf : d.params.defaults = [])
    (hY : ∀ (w : World) (h : Heap), YP w h → (K w.params).In h)
    (F : ∀ (w : World) (mg : Str → Option Value) (fa : Addr) (h : Heap), (K w.params).In h → h.Ns mainGlobals mg → mg d.name = some (.ref fa) →
      ∃ fd : FuncData, (∀ (s : Shared) (u : Value), BindsTo s fd ⟨[u], []⟩ [("_law_script", u)]) ∧ ∀ base : Heap, (K w.params).In base → base.Ns mainGlobals mg → FnOk l.prog w (K w.params) mg base CX0 6 fa fd ["_law_script"] (spR (K w.params) g_law)) :
    PySem.W.WalkO q loose XP YP l.row.toRowW d [] (fun f vs => PySem.call f vs) :=
  L2.walk_of (n := 63) (k := 6) (x := "_law_script") (CX := fun _ => CX0) (sp := fun w => spR (K w.params) g_law) hn (by decide) hdf ⟨rfl, by decide, by decide⟩ hY F (fun _ _ a ns hl ho hS => law_sp hl ho hS) fun _ _ _ _ _ z => z
end K68
open PySem PySem.W PyProof.Rows
set_option maxRecDepth 100000 in
set_option maxHeartbeats 0 in
theorem PySem.Challenge.cw_tanglehouse_k68_steps_of_lists_holds : PySem.Challenge.rw_tanglehouse_k68_steps_of_lists.Holds := by
  w_on; o_law; k_head; (case hw => w_witness2)
  k_fill
  refine K68.walk (l := PySem.Challenge.rw_tanglehouse_k68_steps_of_lists) rfl rfl (fun w h Y => PySem.W.kIn_of Y) ?F
  case F =>
    intro w mg fa h KX G hmg
    refine' K68.all_mk KX G hmg ?a1 ?l1 ?c1 ?k1 ?a2 ?l2 ?c2 ?k2 ?a3 ?l3 ?c3 ?k3 ?a4 ?l4 ?c4 ?k4 ?a5 ?l5 ?c5 ?k5 ?a6 ?l6 ?c6 ?k6 ?a7 ?l7 ?c7 ?k7 ?a8 ?l8 ?c8 ?k8 ?a9 ?l9 ?c9 ?k9 ?a10 ?l10 ?c10 ?k10 ?a11 ?l11 ?c11 ?k11 ?a12 ?l12 ?c12 ?k12 ?a13 ?l13 ?c13 ?k13 ?z_abs ?z_bool ?z_int ?z_isinstance ?z_len ?z_list ?z_max ?z_range ?z_tuple ?zx_NoStep ?zc_NoStep ?zt_NoStep ?zx_TangleError ?zc_TangleError ?zt_TangleError ?zs_TangleError ?zn_TangleError ?zx_BadPace ?zc_BadPace ?zt_BadPace ?zs_BadPace ?zn_BadPace ?zx_NoMatch ?zc_NoMatch ?zt_NoMatch ?zs_NoMatch ?zn_NoMatch ?zx_NoName ?zc_NoName ?zt_NoName ?zs_NoName ?zn_NoName ?zx_NoRow ?zc_NoRow ?zt_NoRow ?zs_NoRow ?zn_NoRow ?zx_NoText ?zc_NoText ?zt_NoText ?zs_NoText ?zn_NoText ?zx_NoTurning ?zc_NoTurning ?zt_NoTurning ?zs_NoTurning ?zn_NoTurning ?zx_NotFlat ?zc_NotFlat ?zt_NotFlat ?zs_NotFlat ?zn_NotFlat ?zx_NoWeb ?zc_NoWeb ?zt_NoWeb ?zs_NoWeb ?zn_NoWeb ?zx_Odd ?zc_Odd ?zt_Odd ?zs_Odd ?zn_Odd ?zx_TooMany ?zc_TooMany ?zt_TooMany ?zs_TooMany ?zn_TooMany ?zx_TooWide ?zc_TooWide ?zt_TooWide ?zs_TooWide ?zn_TooWide ?zb_TangleError ?xl1 ?xl2 ?xn1 ?xn2 ?xs1 ?xs2 ?xi1 ?xi2 ?xq1 ?xq2 ?xq3 ?xq4 ?xq5 ?zV ?zVs
    (case a1 => k_is)
    (case l1 => k_is)
    (case c1 => k_is)
    (case k1 => k_is)
    (case a2 => k_is)
    (case l2 => k_is)
    (case c2 => k_is)
    (case k2 => k_is)
    (case a3 => k_is)
    (case l3 => k_is)
    (case c3 => k_is)
    (case k3 => k_is)
    (case a4 => k_is)
    (case l4 => k_is)
    (case c4 => k_is)
    (case k4 => k_is)
    (case a5 => k_is)
    (case l5 => k_is)
    (case c5 => k_is)
    (case k5 => k_is)
    (case a6 => k_is)
    (case l6 => k_is)
    (case c6 => k_is)
    (case k6 => k_is)
    (case a7 => k_is)
    (case l7 => k_is)
    (case c7 => k_is)
    (case k7 => k_is)
    (case a8 => k_is)
    (case l8 => k_is)
    (case c8 => k_is)
    (case k8 => k_is)
    (case a9 => k_is)
    (case l9 => k_is)
    (case c9 => k_is)
    (case k9 => k_is)
    (case a10 => k_is)
    (case l10 => k_is)
    (case c10 => k_is)
    (case k10 => k_is)
    (case a11 => k_is)
    (case l11 => k_is)
    (case c11 => k_is)
    (case k11 => k_is)
    (case a12 => k_is)
    (case l12 => k_is)
    (case c12 => k_is)
    (case k12 => k_is)
    (case a13 => k_is)
    (case l13 => k_is)
    (case c13 => k_is)
    (case k13 => k_is)
    (case z_abs => first | k_is | rfl | decide +kernel)
    (case z_bool => first | k_is | rfl | decide +kernel)
    (case z_int => first | k_is | rfl | decide +kernel)
    (case z_isinstance => first | k_is | rfl | decide +kernel)
    (case z_len => first | k_is | rfl | decide +kernel)
    (case z_list => first | k_is | rfl | decide +kernel)
    (case z_max => first | k_is | rfl | decide +kernel)
    (case z_range => first | k_is | rfl | decide +kernel)
    (case z_tuple => first | k_is | rfl | decide +kernel)
    (case zx_NoStep => first | k_is | rfl | decide +kernel)
    (case zc_NoStep => first | k_is | rfl | decide +kernel)
    (case zt_NoStep => first | k_is | rfl | decide +kernel)
    (case zx_TangleError => first | k_is | rfl | decide +kernel)
    (case zc_TangleError => first | k_is | rfl | decide +kernel)
    (case zt_TangleError => first | k_is | rfl | decide +kernel)
    (case zs_TangleError => first | k_is | rfl | decide +kernel)
    (case zn_TangleError => first | k_is | rfl | decide +kernel)
    (case zx_BadPace => first | k_is | rfl | decide +kernel)
    (case zc_BadPace => first | k_is | rfl | decide +kernel)
    (case zt_BadPace => first | k_is | rfl | decide +kernel)
    (case zs_BadPace => first | k_is | rfl | decide +kernel)
    (case zn_BadPace => first | k_is | rfl | decide +kernel)
    (case zx_NoMatch => first | k_is | rfl | decide +kernel)
    (case zc_NoMatch => first | k_is | rfl | decide +kernel)
    (case zt_NoMatch => first | k_is | rfl | decide +kernel)
    (case zs_NoMatch => first | k_is | rfl | decide +kernel)
    (case zn_NoMatch => first | k_is | rfl | decide +kernel)
    (case zx_NoName => first | k_is | rfl | decide +kernel)
    (case zc_NoName => first | k_is | rfl | decide +kernel)
    (case zt_NoName => first | k_is | rfl | decide +kernel)
    (case zs_NoName => first | k_is | rfl | decide +kernel)
    (case zn_NoName => first | k_is | rfl | decide +kernel)
    (case zx_NoRow => first | k_is | rfl | decide +kernel)
    (case zc_NoRow => first | k_is | rfl | decide +kernel)
    (case zt_NoRow => first | k_is | rfl | decide +kernel)
    (case zs_NoRow => first | k_is | rfl | decide +kernel)
    (case zn_NoRow => first | k_is | rfl | decide +kernel)
    (case zx_NoText => first | k_is | rfl | decide +kernel)
    (case zc_NoText => first | k_is | rfl | decide +kernel)
    (case zt_NoText => first | k_is | rfl | decide +kernel)
    (case zs_NoText => first | k_is | rfl | decide +kernel)
    (case zn_NoText => first | k_is | rfl | decide +kernel)
    (case zx_NoTurning => first | k_is | rfl | decide +kernel)
    (case zc_NoTurning => first | k_is | rfl | decide +kernel)
    (case zt_NoTurning => first | k_is | rfl | decide +kernel)
    (case zs_NoTurning => first | k_is | rfl | decide +kernel)
    (case zn_NoTurning => first | k_is | rfl | decide +kernel)
    (case zx_NotFlat => first | k_is | rfl | decide +kernel)
    (case zc_NotFlat => first | k_is | rfl | decide +kernel)
    (case zt_NotFlat => first | k_is | rfl | decide +kernel)
    (case zs_NotFlat => first | k_is | rfl | decide +kernel)
    (case zn_NotFlat => first | k_is | rfl | decide +kernel)
    (case zx_NoWeb => first | k_is | rfl | decide +kernel)
    (case zc_NoWeb => first | k_is | rfl | decide +kernel)
    (case zt_NoWeb => first | k_is | rfl | decide +kernel)
    (case zs_NoWeb => first | k_is | rfl | decide +kernel)
    (case zn_NoWeb => first | k_is | rfl | decide +kernel)
    (case zx_Odd => first | k_is | rfl | decide +kernel)
    (case zc_Odd => first | k_is | rfl | decide +kernel)
    (case zt_Odd => first | k_is | rfl | decide +kernel)
    (case zs_Odd => first | k_is | rfl | decide +kernel)
    (case zn_Odd => first | k_is | rfl | decide +kernel)
    (case zx_TooMany => first | k_is | rfl | decide +kernel)
    (case zc_TooMany => first | k_is | rfl | decide +kernel)
    (case zt_TooMany => first | k_is | rfl | decide +kernel)
    (case zs_TooMany => first | k_is | rfl | decide +kernel)
    (case zn_TooMany => first | k_is | rfl | decide +kernel)
    (case zx_TooWide => first | k_is | rfl | decide +kernel)
    (case zc_TooWide => first | k_is | rfl | decide +kernel)
    (case zt_TooWide => first | k_is | rfl | decide +kernel)
    (case zs_TooWide => first | k_is | rfl | decide +kernel)
    (case zn_TooWide => first | k_is | rfl | decide +kernel)
    (case zb_TangleError => first | k_is | rfl | decide +kernel)
    (case xl1 => first | k_is | rfl | decide +kernel)
    (case xl2 => first | k_is | rfl | decide +kernel)
    (case xn1 => first | k_is | rfl | decide +kernel)
    (case xn2 => first | k_is | rfl | decide +kernel)
    (case xs1 => first | k_is | rfl | decide +kernel)
    (case xs2 => first | k_is | rfl | decide +kernel)
    (case xi1 => first | k_is | rfl | decide +kernel)
    (case xi2 => first | k_is | rfl | decide +kernel)
    (case xq1 => first | k_is | rfl | decide +kernel)
    (case xq2 => first | k_is | rfl | decide +kernel)
    (case xq3 => first | k_is | rfl | decide +kernel)
    (case xq4 => first | k_is | rfl | decide +kernel)
    (case xq5 => first | k_is | rfl | decide +kernel)
    (case zV => first | k_is | rfl | decide +kernel)
    (case zVs => first | k_is | rfl | decide +kernel)
