import PyProof.Rows.All
import Wide.All
import OpenK.AllK
import Wide.FinOn
import Lean
import PyProof.EqAt
import PyProof.EqKinds
import PyProof.TupleCall
import PyProof.NeData
import PyProof.ZipIter
import PyProof.Draws
import PyProof.ConsumeWalk
import PyProof.SumAny
import PyProof.ExcArgsOwn
import PyProof.ExcAttrAll.ValueError
import OpenK.KDescr
import KE.KIsAll
import OpenK.KOwn
import KE.KSortTup
import KE.KDictSum
import KE.KSortKey
import KE.KLam
import KE.KNestM
import PySem.Challenge.RW_fewpoints_k13_whole_counts_stay
set_option Elab.async false
set_option linter.all false
set_option maxRecDepth 100000
namespace L2
theorem u1 (_ : True := by first | exact .inl rfl | exact .inr rfl | assumption) : True := trivial
theorem u2 (_ : True := by decide) : True := trivial
theorem u3 (_ : True := by first | exact nobehind _ (by decide) (by decide) | rfl) : True := trivial
theorem u4 (_ : True := by intro _; rfl) : True := trivial
theorem u5 (_ : True := by rfl) : True := trivial
theorem u6 (_ : True := by with_unfolding_all rfl) : True := trivial
theorem u7 (_ : True := by first | exact Or.inl rfl | exact Or.inr (Or.inl rfl) | exact Or.inr (Or.inr rfl)) : True := trivial
theorem u8 (_ : True := by intro b z; cases z; rfl) : True := trivial
theorem u9 (_ : True := by intro _; exact pv _) : True := trivial
theorem u10 (_ : True := by first | exact nomark _ | rfl) : True := trivial
theorem u11 (_ : True := by intro _ _; rfl) : True := trivial
theorem u12 (_ : True := by intro _; exact ⟨rfl, rfl, rfl, rfl, rfl⟩) : True := trivial
theorem u13 (_ : True := by intro _; first | exact Or.inl rfl | exact Or.inr rfl) : True := trivial
theorem u14 (_ : True := by intro _; first | exact .inl rfl | exact .inr rfl) : True := trivial
theorem u15 (_ : True := by simp) : True := trivial
open PySem PySem.Spec PyProof.Rows
abbrev Key := Sum Int Str
def keyIs : Key → Value → Bool
  | .inl k, v => Value.isInt k v
  | .inr x, v => Value.isStrOf x v
def keyH (w : World) : Key → Int
  | .inl k => hashInt k
  | .inr x => hashStr w x
theorem keyIs_shape : ∀ {k : Key} {v : Value}, keyIs k v = true → (∃ i t, k = Sum.inl i ∧ v = Value.int i t) ∨ (∃ x t, k = Sum.inr x ∧ v = Value.str x t)
  | .inl i, v, h => by
    obtain ⟨t, e⟩ := Value.isInt_shape (k := i) (v := v) h
    exact .inl ⟨i, t, rfl, e⟩
  | .inr x, v, h => by
    obtain ⟨t, e⟩ := Value.isStrOf_shape (x := x) (v := v) h
    exact .inr ⟨x, t, rfl, e⟩
theorem keyIs_int (i : Int) (t : Tok) : keyIs (.inl i) (.int i t) = true := by simp [keyIs, Value.isInt]
theorem keyIs_str (x : Str) (t : Tok) : keyIs (.inr x) (.str x t) = true := by simp [keyIs, Value.isStrOf]
theorem key_ll (a b : Int) : decide ((Sum.inl a : Key) = Sum.inl b) = (a == b) := by
  by_cases e : a = b
  · subst e; simp
  · have h : ¬ (Sum.inl a : Key) = Sum.inl b := fun q => e (Sum.inl.inj q)
    rw [decide_eq_false h]
    exact (beq_eq_false_iff_ne.mpr e).symm
theorem key_rr (a b : Str) : decide ((Sum.inr a : Key) = Sum.inr b) = decide (a = b) := by
  by_cases e : a = b
  · subst e; simp
  · have h : ¬ (Sum.inr a : Key) = Sum.inr b := fun q => e (Sum.inr.inj q)
    rw [decide_eq_false h, decide_eq_false e]
theorem key_lr (a : Int) (b : Str) : decide ((Sum.inl a : Key) = Sum.inr b) = false := decide_eq_false (fun q => nomatch q)
theorem key_rl (a : Str) (b : Int) : decide ((Sum.inr a : Key) = Sum.inl b) = false := decide_eq_false (fun q => nomatch q)
def mixKind (prog : Program) (w : World) : PySem.KeyKind prog w Key where
  is := keyIs
  hash := keyH w
  inj := fun v a b ha hb => by
    rcases keyIs_shape ha with ⟨i, t, rfl, rfl⟩ | ⟨x, t, rfl, rfl⟩
    · rcases keyIs_shape hb with ⟨j, u, rfl, e⟩ | ⟨y, u, rfl, e⟩
      · injection e with e1 _; rw [e1]
      · exact nomatch e
    · rcases keyIs_shape hb with ⟨j, u, rfl, e⟩ | ⟨y, u, rfl, e⟩
      · exact nomatch e
      · injection e with e1 _; rw [e1]
  byValue := fun k v h => by
    rcases keyIs_shape h with ⟨i, t, rfl, rfl⟩ | ⟨x, t, rfl, rfl⟩ <;> rfl
  pyHash := fun hv h => by
    rcases keyIs_shape hv with ⟨i, t, rfl, rfl⟩ | ⟨x, t, rfl, rfl⟩
    · exact wpAny_pyHash_int h
    · exact wpAny_pyHash_str h
  eqBool := fun hu hv h => by
    rcases keyIs_shape hu with ⟨i, t, rfl, rfl⟩ | ⟨x, t, rfl, rfl⟩
    · rcases keyIs_shape hv with ⟨j, u, rfl, rfl⟩ | ⟨y, u, rfl, rfl⟩
      · rw [key_ll] at h; exact wpAny_eqBool_int h
      · rw [key_lr] at h; exact SeqAt.EqAt.int_str i t y u _ _ _ _ h
    · rcases keyIs_shape hv with ⟨j, u, rfl, rfl⟩ | ⟨y, u, rfl, rfl⟩
      · rw [key_rl] at h; exact SeqAt.EqAt.str_int x t j u _ _ _ _ h
      · rw [key_rr] at h; exact wpAny_eqBool_str h
  «strs» := fun k x t v h => by
    rcases keyIs_shape h with ⟨i, u, rfl, e⟩ | ⟨y, u, rfl, e⟩
    · exact nomatch e
    · injection e with e1 _
      subst e1
      cases v <;> rfl
theorem mixKind_int (prog : Program) (w : World) (i : Int) (t : Tok) : (mixKind prog w).is (.inl i) (.int i t) = true := keyIs_int i t
theorem mixKind_str (prog : Program) (w : World) (x : Str) (t : Tok) : (mixKind prog w).is (.inr x) (.str x t) = true := keyIs_str x t
end L2
namespace L2
open PySem PySem.Spec PyProof.Rows
inductive V where
  | non | bl (b : Bool) | int (i : Int) | str (x : Str) | byt (b : Array UInt8) | flt (b : UInt64) | ref (a : Addr) | ty (n : String)
  deriving DecidableEq
def RelV : V → Value → Prop
  | .non, u => u = Value.none
  | .bl b, u => u = Value.bool b
  | .int i, u => ∃ t, u = Value.int i t
  | .str x, u => ∃ t, u = Value.str x t
  | .byt b, u => ∃ t, u = Value.bytes b t
  | .flt b, u => ∃ t, u = Value.float b t
  | .ref a, u => u = Value.ref a
  | .ty n, u => u = Value.type n
abbrev Vals : List V → List Value → Prop := Paired RelV
theorem Vals.length {xs : List V} {us : List Value} (r : Vals xs us) : xs.length = us.length := Paired.length r
theorem Vals.get : ∀ {xs : List V} {us : List Value} {i : Nat} {x : V}, Vals xs us → xs[i]? = some x → ∃ u, us[i]? = some u ∧ RelV x u
  | _, _, _, _, .nil, e => by simp at e
  | _, _, 0, _, .cons r _, e => by simp at e; subst e; exact ⟨_, rfl, r⟩
  | _, _, i + 1, x, .cons _ t, e => by
    obtain ⟨u, h1, h2⟩ := Vals.get (i := i) (x := x) t (by simpa using e)
    exact ⟨u, by simpa using h1, h2⟩
theorem Vals.set {x : V} {u : Value} (r : RelV x u) : ∀ {xs : List V} {us : List Value} (i : Nat), Vals xs us → Vals (xs.set i x) (us.set i u)
  | _, _, _, .nil => .nil
  | _, _, 0, .cons _ t => .cons r t
  | _, _, i + 1, .cons q t => .cons q (Vals.set r i t)
theorem Vals.append : ∀ {xs ys : List V} {us ws : List Value}, Vals xs us → Vals ys ws → Vals (xs ++ ys) (us ++ ws)
  | _, _, _, _, .nil, s => s
  | _, _, _, _, .cons r t, s => .cons r (Vals.append t s)
theorem Vals.take : ∀ {xs : List V} {us : List Value} (n : Nat), Vals xs us → Vals (xs.take n) (us.take n)
  | _, _, 0, _ => .nil
  | _, _, _ + 1, .nil => .nil
  | _, _, n + 1, .cons r t => .cons r (Vals.take n t)
theorem Vals.drop : ∀ {xs : List V} {us : List Value} (n : Nat), Vals xs us → Vals (xs.drop n) (us.drop n)
  | _, _, 0, r => r
  | _, _, _ + 1, .nil => .nil
  | _, _, n + 1, .cons _ t => Vals.drop n t
def RelO : Option V → Option Value → Prop
  | some v, some u => RelV v u
  | none, none => True
  | _, _ => False
def KV {κ : Type} : List (κ × V) → List (κ × Value) → Prop := Paired fun (p : κ × V) (q : κ × Value) => p.1 = q.1 ∧ RelV p.2 q.2
def kV : Key → V
  | .inl i => .int i
  | .inr x => .str x
inductive HO where
    | lst (xs : List V)
    | tup (xs : List V)
    | dK (kvs : List (Key × V)) | dT (kvs : List (List Key × V))
    | set (S : Int → Bool) (n : Nat)
    | ins (C dx : Addr) (fs : List (Str × V))
    | own (x : Addr)
    | xd (fs : List (Str × V))
    | met (f x : Addr)
    | rng (lo hi : Int)
    | frz (o : Obj) (u : HO)
    | tbl (ps : Array Value)
    | ext (φ : Heap → Prop)
abbrev Hp := Addr → Option HO
def upd (H : Hp) (a : Addr) (o : HO) : Hp := fun b => if b = a then some o else H b
theorem upd_same {H : Hp} {a : Addr} {o : HO} : upd H a o a = some o := by unfold upd; rw [if_pos rfl]
theorem upd_ne {H : Hp} {a b : Addr} {o : HO} (h : b ≠ a) : upd H a o b = H b := by unfold upd; rw [if_neg h]
theorem ne_of {H : Hp} {a b : Addr} {o u : HO} (h : H a = some o) (h' : H b = some u) (d : o ≠ u) : a ≠ b := by
  intro e; subst e; rw [h] at h'; exact d (Option.some.inj h')
theorem ne_of_none {H : Hp} {a b : Addr} {o : HO} (h : H a = some o) (h' : H b = none) : a ≠ b := by
  intro e; subst e; rw [h] at h'; cases h'
section
variable (P : Program) (w : World)
def ObjOk (H : Hp) (h : Heap) (a : Addr) : HO → Prop
  | .lst xs => xs.length ≤ sizeLine ∧ ∃ (its : List Value) (n : Nat), Vals xs its ∧ h.get? a = some { cls := .type "list", data := .seq its.toArray n }
  | .tup xs => xs.length ≤ sizeLine ∧ ∃ its : List Value, Vals xs its ∧ IsTup h a its.toArray
  | .dK kvs => kvs.length ≤ sizeLine ∧ (a == sysModules) = false ∧ ∃ vs, KV kvs vs ∧ h.DictOf (mixKind P w) a vs
  | .dT kvs => kvs.length ≤ sizeLine ∧ (a == sysModules) = false ∧ ∃ xs : List (List Key × Addr × Value),
      Paired (fun (p : List Key × V) (q : List Key × Addr × Value) => p.1 = q.1 ∧ H q.2.1 = some (.tup (p.1.map kV)) ∧ RelV p.2 q.2.2) kvs xs ∧
      ∃ o es ep, h.get? a = some o ∧ o.ExactDict ∧ o.data = .dict es ep ∧ es.toList = xs.map (entryOfKey (tupleKind (mixKind P w))) ∧ (xs.map (·.1)).Nodup
  | .set S n => h.SetOf (intKind P w) a S n
  | .ins C dx fs => H dx = some (.own a) ∧ fs.length ≤ 1000 ∧ dx ≠ a ∧ h.get? a = some (PySem.W.instObj C dx) ∧
      ∃ mA, h.Ns1 dx mA ∧ (∀ f, RelO (fs.lookup f) (mA f)) ∧ PySem.Within mA (fs.map (·.1))
  | .own _ => ∃ o, h.get? a = some o
  | .xd fs => ∃ mA, h.Ns1 a mA ∧ ∀ f, RelO (fs.lookup f) (mA f)
  | .rng lo hi => ∃ t u v, h.get? a = some { cls := .type "range", data := .fields #[.int lo t, .int hi u, .int 1 v] }
  | .frz o u => h.get? a = some o ∧ ObjOk H h a u
  | .tbl ps => h.get? a = some { cls := .none, data := .fields ps }
  | .met f x => h.get? a = some (PySem.W.methodObj (.ref f) (.ref x))
  | .ext φ => φ h ∧ (∃ o, h.get? a = some o) ∧ ∀ h1 h2 : Heap, φ h1 → (∀ o, h1.get? a = some o → h2.get? a = some o) → φ h2
def HOk (H : Hp) (h : Heap) : Prop := ∀ a o, H a = some o → ObjOk P w H h a o
end
section
variable {P : Program} {w : World} {H H' : Hp} {h h' : Heap} {a : Addr} {o : HO}
theorem ObjOk.lt (x : ObjOk P w H h a o) : a < h.objs.size := by
  cases o with
  | lst xs => obtain ⟨_, _, _, _, e⟩ := x; exact Heap.lt_size e
  | tup xs => obtain ⟨_, _, _, p⟩ := x; exact p.lt
  | dK kvs => obtain ⟨_, _, _, _, o, _, _, e, _⟩ := x; exact Heap.lt_size e
  | dT kvs => obtain ⟨_, _, _, _, o, _, _, e, _⟩ := x; exact Heap.lt_size e
  | set S n => obtain ⟨o, _, _, _, e, _⟩ := x; exact Heap.lt_size e
  | ins C dx fs => obtain ⟨_, _, _, e, _⟩ := x; exact Heap.lt_size e
  | own y => obtain ⟨_, e⟩ := x; exact Heap.lt_size e
  | xd fs => obtain ⟨_, ⟨_, _, _, e, _⟩, _⟩ := x; exact Heap.lt_size e
  | rng lo hi => obtain ⟨_, _, _, e⟩ := x; exact Heap.lt_size e
  | frz ob u => obtain ⟨e, _⟩ := x; exact Heap.lt_size e
  | tbl ps => exact Heap.lt_size (show h.get? a = some _ from x)
  | met f y => exact Heap.lt_size (show h.get? a = some _ from x)
  | ext φ => obtain ⟨_, ⟨_, e⟩, _⟩ := x; exact Heap.lt_size e
theorem Paired.mapP {α β : Type} {F G : α → β → Prop} : ∀ {l₁ : List α} {l₂ : List β}, Paired F l₁ l₂ → (∀ a b, F a b → G a b) → Paired G l₁ l₂
  | _, _, .nil, _ => .nil
  | _, _, .cons r t, f => .cons (f _ _ r) (Paired.mapP t f)
theorem ObjOk.stay (x : ObjOk P w H h a o) (k : ∀ b u, (b = a ∨ H b = some (.own a)) → h.get? b = some u → h'.get? b = some u)
    (ho : ∀ b, H b = some (.own a) → H' b = some (.own a)) (ht : ∀ b xs, H b = some (.tup xs) → H' b = some (.tup xs)) : ObjOk P w H' h' a o := by
  induction o with
  | lst xs => obtain ⟨z, its, n, r, e⟩ := x; exact ⟨z, its, n, r, k _ _ (.inl rfl) e⟩
  | tup xs => obtain ⟨z, its, r, ob, e, c⟩ := x; exact ⟨z, its, r, ob, k _ _ (.inl rfl) e, c⟩
  | dK kvs => obtain ⟨z, y, vs, r, ob, es, ep, e, c⟩ := x; exact ⟨z, y, vs, r, ob, es, ep, k _ _ (.inl rfl) e, c⟩
  | dT kvs =>
    obtain ⟨z, y, xs, r, ob, es, ep, e, c⟩ := x
    exact ⟨z, y, xs, Paired.mapP r fun p q z => ⟨z.1, ht _ _ z.2.1, z.2.2⟩, ob, es, ep, k _ _ (.inl rfl) e, c⟩
  | set S n => obtain ⟨ob, es, ep, t, e, c⟩ := x; exact ⟨ob, es, ep, t, k _ _ (.inl rfl) e, c⟩
  | ins C dx fs =>
    obtain ⟨d, z, ne, e, mA, ⟨od, es, ep, e2, c⟩, r⟩ := x
    exact ⟨ho _ d, z, ne, k _ _ (.inl rfl) e, mA, ⟨od, es, ep, k _ _ (.inr d) e2, c⟩, r⟩
  | own y => obtain ⟨ob, e⟩ := x; exact ⟨ob, k _ _ (.inl rfl) e⟩
  | xd fs => obtain ⟨mA, ⟨od, es, ep, e, c⟩, r⟩ := x; exact ⟨mA, ⟨od, es, ep, k _ _ (.inl rfl) e, c⟩, r⟩
  | rng lo hi => obtain ⟨t, u, v, e⟩ := x; exact ⟨t, u, v, k _ _ (.inl rfl) e⟩
  | frz ob u ih => obtain ⟨e, q⟩ := x; exact ⟨k _ _ (.inl rfl) e, ih q⟩
  | tbl ps =>
    have e : h.get? a = some { cls := .none, data := .fields ps } := x
    show h'.get? a = some { cls := .none, data := .fields ps }
    exact k a _ (.inl rfl) e
  | met f y =>
    have e : h.get? a = some (PySem.W.methodObj (.ref f) (.ref y)) := x
    show h'.get? a = some (PySem.W.methodObj (.ref f) (.ref y))
    exact k a _ (.inl rfl) e
  | ext φ => obtain ⟨p, ⟨o, e⟩, st⟩ := x; exact ⟨st _ _ p fun o q => k _ _ (.inl rfl) q, ⟨o, k _ _ (.inl rfl) e⟩, st⟩
theorem HOk.lt (x : HOk P w H h) (e : H a = some o) : a < h.objs.size := (x a o e).lt
theorem HOk.fresh (x : HOk P w H h) (e : h.objs.size ≤ a) : H a = none := by
  cases q : H a with
  | none => rfl
  | some u => exact absurd (Nat.lt_of_lt_of_le (x.lt q) e) (Nat.lt_irrefl _)
theorem HOk.kept (x : HOk P w H h) (k : ∀ b u, h.get? b = some u → h'.get? b = some u) : HOk P w H h' := fun a o e =>
  (x a o e).stay (fun b u _ q => k b u q) (fun _ q => q) fun _ _ q => q
theorem HOk.laid (x : HOk P w H h) (k : ∀ b u, h.get? b = some u → h'.get? b = some u) (hp : h.objs.size ≤ a) (new : ObjOk P w (upd H a o) h' a o) : HOk P w (upd H a o) h' := fun b u e => by
  have hn := x.fresh hp
  by_cases hb : b = a
  · subst hb; rw [upd_same] at e; cases e; exact new
  · rw [upd_ne hb] at e
    exact (x b u e).stay (fun c v _ q => k c v q) (fun c q => by rw [upd_ne (ne_of_none q hn)]; exact q) fun c xs q => by rw [upd_ne (ne_of_none q hn)]; exact q
end
def Rd (H : Hp) (a : Addr) (u : HO) : Prop := H a = some u ∨ ∃ o, H a = some (.frz o u)
theorem Rd.ok {P : Program} {w : World} {H : Hp} {h : Heap} {a : Addr} {u : HO} (r : Rd H a u) (x : HOk P w H h) : ObjOk P w H h a u := by
  rcases r with r | ⟨o, r⟩
  · exact x a u r
  · obtain ⟨_, q⟩ := x a _ r
    exact q
def Mut : Option HO → Prop
  | some (.lst _) => True
  | some (.dK _) => True
  | some (.dT _) => True
  | some (.set _ _) => True
  | some (.ins _ _ _) => True
  | some (.ext _) => True
  | _ => False
section
variable {P : Program} {w : World} {H : Hp} {h h' : Heap} {x e : Addr} {o' : HO}
theorem HOk.write (ok : HOk P w H h) (mu : Mut (H x)) (he : e = x ∨ H e = some (.own x)) (k : ∀ b u, b ≠ e → h.get? b = some u → h'.get? b = some u) (heo : ∃ u, h'.get? e = some u)
    (new : ObjOk P w (upd H x o') h' x o') : HOk P w (upd H x o') h' := fun b u q => by
  have nown : ∀ c y, H c = some (.own y) → c ≠ x := fun c y r z => by subst z; rw [r] at mu; exact mu
  have ntup : ∀ c xs, H c = some (.tup xs) → c ≠ x := fun c xs r z => by subst z; rw [r] at mu; exact mu
  by_cases hb : b = x
  · subst hb; rw [upd_same] at q; cases q; exact new
  · rw [upd_ne hb] at q
    by_cases hbe : b = e
    · have q' : H b = some (.own x) := by
        rcases he with z | z
        · exact absurd (hbe.trans z) hb
        · rw [hbe]; exact z
      rw [q] at q'; cases q'
      obtain ⟨v, hv⟩ := heo
      exact ⟨v, by rw [hbe]; exact hv⟩
    · refine (ok b u q).stay (fun c v hc r => k c v ?_ r) (fun c r => by rw [upd_ne (nown c b r)]; exact r) fun c xs r => by rw [upd_ne (ntup c xs r)]; exact r
      rcases hc with rfl | hc
      · exact hbe
      · rintro rfl
        rcases he with z | z
        · exact nown c b hc z
        · rw [hc] at z; cases z; exact hb rfl
end
structure Un (fs ex : List Addr) (H H' : Hp) (h h' : Heap) : Prop where
  keep : ∀ b o, h.get? b = some o → H b = none → b ∉ fs → b ∉ ex → h'.get? b = some o
  slot : ∀ b o, h.get? b = some o → H b = none → b ∈ fs → b ∉ ex → ∃ sl, h'.get? b = some { o with slots := sl }
  free : ∀ b o, h.get? b = some o → H b = none → b ∉ ex → H' b = none
  there : ∀ b o, h.get? b = some o → b ∉ ex → ∃ o', h'.get? b = some o'
  tups : ∀ b xs, H b = some (.tup xs) → H' b = some (.tup xs)
  frzs : ∀ b o u, H b = some (.frz o u) → H' b = some (.frz o u)
  tbls : ∀ b ps, H b = some (.tbl ps) → ∃ more, H' b = some (.tbl (ps ++ more))
section
variable {fs fs' ex ex' : List Addr} {H H1 H2 : Hp} {h h1 h2 h' : Heap} {a x e : Addr} {o : HO}
theorem Un.any (u : Un fs ex H H1 h h1) {b : Addr} {ob : Obj} (q : h.get? b = some ob) (n : H b = none) (hx : b ∉ ex) : ∃ sl, h1.get? b = some { ob with slots := sl } := by
  by_cases hb : b ∈ fs
  · exact u.slot b ob q n hb hx
  · exact ⟨ob.slots, u.keep b ob q n hb hx⟩
theorem Un.kept (k : ∀ b u, h.get? b = some u → h'.get? b = some u) : Un fs ex H H h h' :=
  ⟨fun b ob q _ _ _ => k b ob q, fun b ob q _ _ _ => ⟨ob.slots, k b ob q⟩, fun _ _ _ n _ => n, fun b ob q _ => ⟨ob, k b ob q⟩, fun _ _ q => q, fun _ _ _ q => q, fun _ ps q => ⟨#[], by rw [q]; simp⟩⟩
theorem Un.refl : Un fs ex H H h h := Un.kept fun _ _ q => q
theorem Un.laid (k : ∀ b u, h.get? b = some u → h'.get? b = some u) (hp : h.objs.size ≤ a) (hn : H a = none) : Un fs ex H (upd H a o) h h' where
  keep := fun b u q _ _ _ => k b u q
  slot := fun b u q _ _ _ => ⟨u.slots, k b u q⟩
  free := fun b u q n _ => by rw [upd_ne (Nat.ne_of_lt (Nat.lt_of_lt_of_le (Heap.lt_size q) hp))]; exact n
  there := fun b u q _ => ⟨u, k b u q⟩
  tups := fun b xs q => by rw [upd_ne (ne_of_none q hn)]; exact q
  frzs := fun b u xs q => by rw [upd_ne (ne_of_none q hn)]; exact q
  tbls := fun b ps q => ⟨#[], by rw [upd_ne (ne_of_none q hn), q]; simp⟩
theorem Un.write (mu : Mut (H x)) (he : e = x ∨ H e = some (.own x)) (k : ∀ b u, b ≠ e → h.get? b = some u → h'.get? b = some u) (heo : ∃ u, h'.get? e = some u) : Un fs ex H (upd H x o) h h' := by
  have hx : ∀ b, H b = none → b ≠ x := fun b n z => by subst z; rw [n] at mu; exact mu
  have hb : ∀ b, H b = none → b ≠ e := fun b n z => by
    subst z
    rcases he with r | r
    · exact hx b n r
    · rw [n] at r; cases r
  have hm : ∀ b u, H b = some u → ¬ Mut (some u) → b ≠ x := fun b u q nm z => by subst z; rw [q] at mu; exact nm mu
  refine ⟨fun b u q n _ _ => k b u (hb b n) q, fun b u q n _ _ => ⟨u.slots, k b u (hb b n) q⟩, fun b u q n _ => by rw [upd_ne (hx b n)]; exact n, fun b u q _ => ?_,
    fun b xs q => by rw [upd_ne (hm b _ q fun z => z)]; exact q, fun b u xs q => by rw [upd_ne (hm b _ q fun z => z)]; exact q, fun b ps q => ⟨#[], by rw [upd_ne (hm b _ q fun z => z), q]; simp⟩⟩
  by_cases hbe : b = e
  · subst hbe; exact heo
  · exact ⟨u, k b u hbe q⟩
end
def trk (h : Heap) (H : Hp) : List Addr := (List.range h.objs.size).filter fun a => (H a).isSome
def hidT (h : Heap) (H : Hp) : Heap := PySem.W.hideAll h (trk h H)
theorem hidT_size (h : Heap) (H : Hp) : (hidT h H).objs.size = h.objs.size := PySem.W.hideAll_size _ _
theorem hidT_get {h : Heap} {H : Hp} {b : Addr} {o : Obj} (e : h.get? b = some o) (n : H b = none) : (hidT h H).get? b = some o :=
  PySem.W.hideAll_get _ e fun hm => by
    have q : (H b).isSome = true := (List.mem_filter.mp hm).2
    rw [n] at q; simp at q
theorem of_hidT {h : Heap} {H : Hp} {b : Addr} {o : Obj} (e : (hidT h H).get? b = some o) : h.get? b = some o ∧ H b = none := by
  have e' : h.get? b = some o := PySem.W.of_hideAll (trk h H) e
  refine ⟨e', ?_⟩
  cases q : H b with
  | none => rfl
  | some x =>
    have hm : b ∈ trk h H := List.mem_filter.mpr ⟨List.mem_range.mpr (Heap.lt_size e'), by simp [q]⟩
    have z : (hidT h H).get? b = none := PySem.W.hideAll_none (trk h H) hm
    rw [z] at e; cases e
def allNews (g h : Heap) (L : Addr) : List (Addr × Obj) := (List.range h.objs.size).filterMap fun a => if a = L ∨ (g.get? a).isSome = true then none else (h.get? a).map fun o => (a, o)
def rest (g h : Heap) (L d : Addr) : List (Addr × Obj) := (allNews g h L).filter fun p => decide (p.1 ≠ d)
end L2
namespace L2
open PySem PySem.Spec PyProof.Rows
structure Mod (K : PySem.W.Frag) (mg : Str → Option Value) (base : Heap) : Prop where
  kin : K.In base
  glob : base.Ns mainGlobals mg
  blt : ∃ mb, base.Ns builtinsNs mb ∧ ∀ x : Str, x ≠ "__name__" → mb x = bootBuiltins x
  nolimit : base.NoLimit
structure Cx where
  prog : Program
  w : World
  K : PySem.W.Frag
  mg : Str → Option Value
  base : Heap
  A : Around
  N : List Str
  s₀ : Shared
  H₀ : Hp
  env : Env
  outer : List Env
  stack : List Env
  ex : List Addr
  fn : Str → Bool
  calm : Bool
  pn : List (Addr × Obj)
  xe : Value → Shared → Prop
def frs (l : List Env) : List Addr := l.filterMap (·.frame)
abbrev Cx.fs (X : Cx) : List Addr := frs X.outer
def Vis (sc : Scope) (x : Str) : Prop := sc.names.lookup x = some .local ∨ sc.names.lookup x = some .cell ∨ sc.names.lookup x = some .free
def Loc (sc : Scope) (x : Str) : Prop := sc.names.lookup x = some .local ∨ sc.names.lookup x = some .cell
def Look (env : Env) (h : Heap) (m : Str → Option Value) (x : Str) (u : Value) : Prop :=
  (env.kindOf x = some .local ∧ m x = some u) ∨ ((env.kindOf x = some .cell ∨ env.kindOf x = some .free) ∧ ∃ c, env.cells.lookup x = some c ∧ h.IsCell c (some u))
structure Cx.Ok (X : Cx) : Prop where
  mod : Mod X.K X.mg X.base
  kind : X.env.scope.kind = .function
  glob : X.env.globals = mainGlobals
  blt : X.env.builtins = builtinsNs
  above : X.s₀.heap.objs.size ≤ X.env.locals
  inj : ∀ x y c, X.env.cells.lookup x = some c → X.env.cells.lookup y = some c → x = y
  has : ∀ x, (X.env.kindOf x = some .cell ∨ X.env.kindOf x = some .free) → ∃ c, X.env.cells.lookup x = some c
  cab : ∀ x c, X.fn x = true → X.env.cells.lookup x = some c → X.s₀.heap.objs.size ≤ c
  hd : X.calm = true → X.A.handled = none
  frames : X.A.frames = some X.stack
  stk : X.stack = X.outer ∨ (X.stack = X.env :: X.outer ∧ X.env.frame = some X.env.locals)
  exf : ∀ b ∈ X.ex, b ≠ X.env.locals ∧ ∀ x c, X.env.cells.lookup x = some c → c ≠ b
  bs : ∀ b o, X.base.get? b = some o → X.s₀.heap.get? b = some o ∧ X.H₀ b = none
  bsz : X.base.objs.size ≤ X.s₀.heap.objs.size
  noex : ∀ b o, X.base.get? b = some o → b ∉ X.ex
  exfs : ∀ b ∈ X.ex, b ∉ X.fs
  funs : X.s₀.heap.FunFrames X.base X.outer
  frf : ∀ b ∈ X.fs, X.H₀ b = none
structure Inv (X : Cx) (pins : List (Addr × Obj)) (σ : List (Option V)) (H : Hp) (s : Shared) : Prop where
  ok : X.Ok
  os : s.os = X.s₀.os
  bare : AllBare s.gens
  base : Un X.fs X.ex X.H₀ H X.s₀.heap s.heap
  loc : ∃ m, s.heap.Ns X.env.locals m ∧ ∀ (i : Nat) (x : Str) (v : V), X.N[i]? = some x → σ[i]? = some (some v) → Vis X.env.scope x → ∃ u, RelV v u ∧ Look X.env s.heap m x u
  cell : ∀ x c, X.env.cells.lookup x = some c → ∃ v, s.heap.IsCell c v
  free : H X.env.locals = none
  freeC : ∀ x c, X.env.cells.lookup x = some c → H c = none
  pin : ∀ p ∈ X.pn ++ pins, s.heap.get? p.1 = some p.2 ∧ H p.1 = none ∧ p.1 ≠ X.env.locals ∧ p.1 ∉ X.fs ∧ ∀ v, p.2.data ≠ .cell v
  hok : HOk X.prog X.w H s.heap
  len : σ.length = X.N.length
section
variable {X : Cx} {pins : List (Addr × Obj)} {σ : List (Option V)} {H H' : Hp} {s : Shared} {h' : Heap}
theorem Cx.Ok.nofr (ok : X.Ok) {b : Addr} {o : Obj} (e : X.base.get? b = some o) : b ∉ X.fs := fun hb => by
  have := (ok.funs.mem hb).1
  rw [e] at this; cases this
theorem Inv.bs (I : Inv X pins σ H s) : ∀ b o, X.base.get? b = some o → s.heap.get? b = some o ∧ H b = none := fun b o e =>
  ⟨I.base.keep b o (I.ok.bs b o e).1 (I.ok.bs b o e).2 (I.ok.nofr e) (I.ok.noex b o e), I.base.free b o (I.ok.bs b o e).1 (I.ok.bs b o e).2 (I.ok.noex b o e)⟩
theorem Inv.bk (I : Inv X pins σ H s) : ∀ b o, X.base.get? b = some o → s.heap.get? b = some o := fun b o e => (I.bs b o e).1
theorem Inv.mod (I : Inv X pins σ H s) : Mod X.K X.mg X.base := I.ok.mod
theorem Inv.kIn (I : Inv X pins σ H s) : X.K.In s.heap := I.ok.mod.kin.keeps I.bk
theorem Inv.lt (I : Inv X pins σ H s) : X.env.locals < s.heap.objs.size := let ⟨_, hn, _⟩ := I.loc; hn.lt
theorem Inv.sz (I : Inv X pins σ H s) : X.s₀.heap.objs.size ≤ s.heap.objs.size := Nat.le_trans I.ok.above (Nat.le_of_lt I.lt)
theorem Inv.nofs (I : Inv X pins σ H s) {a : Addr} (h : s.heap.objs.size ≤ a) : a ∉ X.fs := fun hb => by
  obtain ⟨_, o, ho, _⟩ := I.ok.funs.mem hb
  exact absurd (Nat.lt_of_lt_of_le (Heap.lt_size ho) (Nat.le_trans I.sz h)) (Nat.lt_irrefl _)
theorem Inv.cne (I : Inv X pins σ H s) : ∀ x c, X.env.cells.lookup x = some c → c ≠ X.env.locals := fun x c e z => by
  obtain ⟨v, o, ho, hd⟩ := I.cell x c e
  obtain ⟨m, ⟨o', es, ep, ho', hd', _⟩, _⟩ := I.loc
  rw [z, ho'] at ho; cases ho; rw [hd'] at hd; cases hd
theorem Inv.funs (I : Inv X pins σ H s) : s.heap.FunFrames X.base X.outer := by
  have all : ∀ (l : List Env), (∀ b ∈ frs l, b ∈ X.fs) → X.s₀.heap.FunFrames X.base l → s.heap.FunFrames X.base l := by
    intro l
    induction l with
    | nil => intro _ _; trivial
    | cons env r ih =>
      intro hs hl
      obtain ⟨hk, ⟨L, o, hf, hn, ho, hd⟩, hr⟩ := hl
      have hL : L ∈ X.fs := hs L (by unfold frs; rw [List.filterMap_cons, hf]; exact List.mem_cons_self)
      obtain ⟨sl, e⟩ := I.base.slot L o ho (I.ok.frf L hL) hL fun z => I.ok.exfs L z hL
      exact ⟨hk, ⟨L, _, hf, hn, e, hd⟩, ih (fun b hb => hs b (by unfold frs; rw [List.filterMap_cons, hf]; exact List.mem_cons_of_mem _ hb)) hr⟩
  exact all X.outer (fun _ hb => hb) I.ok.funs
theorem Inv.stack (I : Inv X pins σ H s) : s.heap.FunFrames X.base X.stack := by
  rcases I.ok.stk with e | ⟨e, hf⟩
  · rw [e]; exact I.funs
  · rw [e]
    obtain ⟨m, hn, _⟩ := I.loc
    refine .cons (by rw [I.ok.kind]; decide) hf hn ?_ I.funs
    exact Heap.get?_none_of_le (Nat.le_trans I.ok.bsz I.ok.above)
theorem Inv.stkSub (I : Inv X pins σ H s) : ∀ b ∈ frs X.stack, b ∈ X.env.locals :: X.fs := fun b hb => by
  rcases I.ok.stk with e | ⟨e, hf⟩
  · rw [e] at hb; exact List.mem_cons_of_mem _ hb
  · rw [e] at hb
    unfold frs at hb
    rw [List.filterMap_cons, hf] at hb
    exact hb
theorem Inv.stkFree (I : Inv X pins σ H s) : ∀ b ∈ frs X.stack, H b = none := fun b hb => by
  rcases List.mem_cons.mp (I.stkSub b hb) with e | hb
  · rw [e]; exact I.free
  · obtain ⟨_, o, ho, _⟩ := I.ok.funs.mem hb
    exact I.base.free b o ho (I.ok.frf b hb) fun z => I.ok.exfs b z hb
theorem Inv.step {g' : Array GenState} {t' : Nat} {d' : Drawn} {ch : List Addr} (I : Inv X pins σ H s)
    (hch : ∀ b ∈ ch, (b ∈ X.ex ∨ X.s₀.heap.objs.size ≤ b) ∧ b ≠ X.env.locals ∧ (∀ x c, X.env.cells.lookup x = some c → c ≠ b) ∧ ∀ p ∈ X.pn ++ pins, p.1 ≠ b)
    (keep : ∀ b o, b ≠ X.env.locals → b ∉ X.fs → b ∉ ch → s.heap.get? b = some o → H b = none → h'.get? b = some o)
    (slot : ∀ b o, b ≠ X.env.locals → b ∈ X.fs → b ∉ ch → s.heap.get? b = some o → H b = none → ∃ sl, h'.get? b = some { o with slots := sl }) (free : ∀ b o, b ∉ ch → s.heap.get? b = some o → H b = none → H' b = none)
    (there : ∀ b o, b ∉ ch → s.heap.get? b = some o → ∃ o', h'.get? b = some o')
    (tups : ∀ b xs, H b = some (.tup xs) → H' b = some (.tup xs)) (frzs : ∀ b o u, H b = some (.frz o u) → H' b = some (.frz o u)) (tbls : ∀ b ps, H b = some (.tbl ps) → ∃ more, H' b = some (.tbl (ps ++ more)))
    (ns : ∀ m, s.heap.Ns X.env.locals m → h'.Ns X.env.locals m) (hok : HOk X.prog X.w H' h') (hg : AllBare g') :
    Inv X pins σ H' { s with heap := h', gens := g', drawn := d', toks := t' } := by
  have neL : ∀ b o, X.s₀.heap.get? b = some o → b ≠ X.env.locals := fun b o e => Nat.ne_of_lt (Nat.lt_of_lt_of_le (Heap.lt_size e) I.ok.above)
  have neC : ∀ b o, X.s₀.heap.get? b = some o → b ∉ X.ex → b ∉ ch := fun b o e hx hb => by
    rcases (hch b hb).1 with z | z
    · exact hx z
    · exact absurd (Nat.lt_of_lt_of_le (Heap.lt_size e) z) (Nat.lt_irrefl _)
  have cellK : ∀ x c, X.env.cells.lookup x = some c → ∀ v, s.heap.IsCell c v → h'.IsCell c v := fun x c e v ⟨o, ho, hd⟩ => by
    have nch : c ∉ ch := fun z => (hch c z).2.2.1 x c e rfl
    by_cases hc : c ∈ X.fs
    · obtain ⟨sl, q⟩ := slot c o (I.cne x c e) hc nch ho (I.freeC x c e)
      exact ⟨_, q, hd⟩
    · exact ⟨o, keep c o (I.cne x c e) hc nch ho (I.freeC x c e), hd⟩
  refine ⟨I.ok, I.os, hg, ⟨fun b o e n hb hx => ?_, fun b o e n hb hx => ?_, fun b o e n hx => ?_, fun b o e hx => ?_, fun b xs e => tups b xs (I.base.tups b xs e), fun b o xs e => frzs b o xs (I.base.frzs b o xs e), fun b ps e => ?_⟩, ?_, fun x c e => ?_, ?_, fun x c e => ?_, fun p hp => ?_, hok, I.len⟩
  · exact keep b o (neL b o e) hb (neC b o e hx) (I.base.keep b o e n hb hx) (I.base.free b o e n hx)
  · obtain ⟨sl, e1⟩ := I.base.slot b o e n hb hx
    obtain ⟨sl', e2⟩ := slot b _ (neL b o e) hb (neC b o e hx) e1 (I.base.free b o e n hx)
    exact ⟨sl', e2⟩
  · obtain ⟨o', e1⟩ := I.base.there b o e hx
    exact free b o' (neC b o e hx) e1 (I.base.free b o e n hx)
  · obtain ⟨o', e1⟩ := I.base.there b o e hx
    exact there b o' (neC b o e hx) e1
  · obtain ⟨m1, e1⟩ := I.base.tbls b ps e
    obtain ⟨m2, e2⟩ := tbls b _ e1
    exact ⟨m1 ++ m2, by rw [e2, Array.append_assoc]⟩
  · obtain ⟨m, hn, hl⟩ := I.loc
    refine ⟨m, ns m hn, fun i x v e1 e2 e3 => ?_⟩
    obtain ⟨u, r, l⟩ := hl i x v e1 e2 e3
    refine ⟨u, r, ?_⟩
    rcases l with l | ⟨k, c, e, z⟩
    · exact .inl l
    · exact .inr ⟨k, c, e, cellK x c e _ z⟩
  · obtain ⟨v, z⟩ := I.cell x c e
    exact ⟨v, cellK x c e v z⟩
  · obtain ⟨m, ⟨o, _, _, ho, _⟩, _⟩ := I.loc
    exact free _ o (fun z => (hch _ z).2.1 rfl) ho I.free
  · obtain ⟨v, o, ho, hd⟩ := I.cell x c e
    exact free c o (fun z => (hch c z).2.2.1 x c e rfl) ho (I.freeC x c e)
  · obtain ⟨e, n, ne, nf, d⟩ := I.pin p hp
    have nch : p.1 ∉ ch := fun z => (hch p.1 z).2.2.2 p hp rfl
    exact ⟨keep p.1 p.2 ne nf nch e n, free p.1 p.2 nch e n, ne, nf, d⟩
theorem Inv.un {t' : Nat} (I : Inv X pins σ H s) (u : Un X.fs [] H H' s.heap h') (hok : HOk X.prog X.w H' h') : Inv X pins σ H' { s with heap := h', toks := t' } := by
  obtain ⟨m, ⟨o, es, ep, ho, r⟩, _⟩ := id I.loc
  obtain ⟨sl, hL⟩ := u.any ho I.free (by simp)
  exact I.step (g' := s.gens) (d' := s.drawn) (ch := []) (fun _ z => nomatch z) (fun b o _ hb _ e n => u.keep b o e n hb (by simp)) (fun b o _ hb _ e n => u.slot b o e n hb (by simp)) (fun b o _ e n => u.free b o e n (by simp)) (fun b o _ e => u.there b o e (by simp)) u.tups u.frzs u.tbls (fun m' hm => by
    obtain ⟨o', es', ep', ho', r'⟩ := hm
    rw [ho] at ho'; cases ho'
    exact ⟨_, es', ep', hL, r'⟩) hok I.bare
theorem Inv.call {g' : Array GenState} {t' : Nat} {d' : Drawn} {ch : List Addr} (I : Inv X pins σ H s) (u : Un (frs X.stack) ch H H' s.heap h') (hok : HOk X.prog X.w H' h') (hg : AllBare g')
    (hch : ∀ b ∈ ch, (b ∈ X.ex ∨ X.s₀.heap.objs.size ≤ b) ∧ b ≠ X.env.locals ∧ (∀ x c, X.env.cells.lookup x = some c → c ≠ b) ∧ ∀ p ∈ X.pn ++ pins, p.1 ≠ b) :
    Inv X pins σ H' { s with heap := h', gens := g', drawn := d', toks := t' } := by
  obtain ⟨m, ⟨o, es, ep, ho, r⟩, _⟩ := id I.loc
  obtain ⟨sl, hL⟩ := u.any ho I.free fun z => (hch _ z).2.1 rfl
  exact I.step (ch := ch) hch (fun b o hL hb hc e n => u.keep b o e n (fun z => (List.mem_cons.mp (I.stkSub b z)).elim hL hb) hc) (fun b o _ _ hc e n => u.any e n hc) (fun b o hc e n => u.free b o e n hc) (fun b o hc e => u.there b o e hc) u.tups u.frzs u.tbls (fun m' hm => by
    obtain ⟨o', es', ep', ho', r'⟩ := hm
    rw [ho] at ho'; cases ho'
    exact ⟨_, es', ep', hL, r'⟩) hok hg
theorem Inv.turned {t' : Nat} {it : Addr} (I : Inv X pins σ H s) (k : ∀ b o, b ≠ it → s.heap.get? b = some o → h'.get? b = some o) (hn : H it = none) (hL : it ≠ X.env.locals)
    (h1 : it ∈ X.ex ∨ X.s₀.heap.objs.size ≤ it) (h2 : ∀ x c, X.env.cells.lookup x = some c → c ≠ it) (h3 : ∀ p ∈ X.pn ++ pins, p.1 ≠ it) : Inv X pins σ H { s with heap := h', toks := t' } := by
  have nit : ∀ b u, H b = some u → b ≠ it := fun b u e z => by rw [z, hn] at e; cases e
  refine I.step (g' := s.gens) (d' := s.drawn) (ch := [it]) (fun b hb => ?_) (fun b o _ _ hc e _ => k b o (fun z => hc (by simp [z])) e) (fun b o _ _ hc e _ => ⟨o.slots, k b o (fun z => hc (by simp [z])) e⟩) (fun _ _ _ _ n => n)
    (fun b o hc e => ⟨o, k b o (fun z => hc (by simp [z])) e⟩) (fun _ _ e => e) (fun _ _ _ e => e) (fun b ps e => ⟨#[], by rw [e]; simp⟩) (fun m hm => ?_) (fun b u e => ?_) I.bare
  · have e : b = it := by simpa using hb
    subst e
    exact ⟨h1, hL, h2, h3⟩
  · obtain ⟨o, es, ep, ho, r⟩ := hm
    exact ⟨o, es, ep, k _ o (Ne.symm hL) ho, r⟩
  · refine (I.hok b u e).stay (fun c v hc q => k c v ?_ q) (fun _ q => q) fun _ _ q => q
    rcases hc with z | z
    · rw [z]; exact nit b u e
    · exact nit c _ z
theorem Inv.tok (I : Inv X pins σ H s) (t : Nat) : Inv X pins σ H { s with toks := t } := I.un (h' := s.heap) (t' := t) Un.refl I.hok
theorem Inv.kept {t' : Nat} (I : Inv X pins σ H s) (k : ∀ b u, s.heap.get? b = some u → h'.get? b = some u) : Inv X pins σ H { s with heap := h', toks := t' } := I.un (Un.kept k) (I.hok.kept k)
theorem Inv.laid {a : Addr} {o : HO} {t' : Nat} (I : Inv X pins σ H s) (k : ∀ b u, s.heap.get? b = some u → h'.get? b = some u) (hp : s.heap.objs.size ≤ a) (new : ObjOk X.prog X.w (upd H a o) h' a o) :
    Inv X pins σ (upd H a o) { s with heap := h', toks := t' } := I.un (Un.laid k hp (I.hok.fresh hp)) (I.hok.laid k hp new)
theorem Inv.write {x e : Addr} {o : HO} {t' : Nat} (I : Inv X pins σ H s) (mu : Mut (H x)) (he : e = x ∨ H e = some (.own x)) (k : ∀ b u, b ≠ e → s.heap.get? b = some u → h'.get? b = some u) (heo : ∃ u, h'.get? e = some u)
    (new : ObjOk X.prog X.w (upd H x o) h' x o) : Inv X pins σ (upd H x o) { s with heap := h', toks := t' } := I.un (Un.write mu he k heo) (I.hok.write mu he k heo new)
theorem Inv.pins_of {pins' : List (Addr × Obj)} (I : Inv X pins σ H s) (h : ∀ p ∈ pins', s.heap.get? p.1 = some p.2 ∧ H p.1 = none ∧ p.1 ≠ X.env.locals ∧ p.1 ∉ X.fs ∧ ∀ v, p.2.data ≠ .cell v) : Inv X pins' σ H s :=
  ⟨I.ok, I.os, I.bare, I.base, I.loc, I.cell, I.free, I.freeC, fun p hp => (List.mem_append.mp hp).elim (fun z => I.pin p (List.mem_append_left _ z)) (h p), I.hok, I.len⟩
theorem nodup_ix {N : List Str} (hN : N.Nodup) {i j : Nat} {x : Str} (a : N[i]? = some x) (b : N[j]? = some x) : i = j := by
  obtain ⟨h1, e1⟩ := List.getElem?_eq_some_iff.mp a
  obtain ⟨h2, e2⟩ := List.getElem?_eq_some_iff.mp b
  exact (List.getElem_inj hN).mp (e1.trans e2.symm)
theorem store_ok2 {M : Model} {A : Around} {E : Value → Shared → Prop} {i : Nat} {x : Str} {v : V} {u : Value} {Q : Unit → Shared → Prop} (I : Inv X pins σ H s) (hN : X.N.Nodup) (hi : X.N[i]? = some x) (hx : Loc X.env.scope x) (r : RelV v u)
    (h : ∀ s', Inv X pins (σ.set i (some v)) H s' → (∃ a, Heap.SameBut a s.heap s'.heap ∧ (a = X.env.locals ∨ X.env.cells.lookup x = some a)) → Q () s') (hf : autoParam (X.fn x = true ∨ X.env.scope.names.lookup x = some .local) u1._auto_1) : wpAny M A (storeName X.env x u) Q E s := by
  obtain ⟨m, hn, hl⟩ := id I.loc
  have hcls : (X.env.scope.kind == .class || (X.env.scope.kind == .module && X.env.locals != X.env.globals)) = false := by rw [I.ok.kind]; rfl
  have hiσ : i < σ.length := by rw [I.len]; exact (List.getElem?_eq_some_iff.mp hi).1
  have cne := I.cne
  have tracked : ∀ {a : Addr} {h' : Heap}, (∃ o, s.heap.get? a = some o ∧ H a = none) → Heap.SameBut a s.heap h' → HOk X.prog X.w H h' := fun {a h'} ha hs b ob e => by
    obtain ⟨_, _, hfree⟩ := ha
    refine (I.hok b ob e).stay (fun c w' hc q => (hs.2 c ?_).trans q) (fun _ q => q) fun _ _ q => q
    rintro rfl
    rcases hc with rfl | hc
    · rw [hfree] at e; cases e
    · rw [hfree] at hc; cases hc
  rcases hx with hk | hk
  · refine wpAny_storeName_local hk hn (fun h' hn' hs => ?_) hcls
    obtain ⟨oL, _, _, hoL, _⟩ := id hn
    refine h _ ⟨I.ok, I.os, I.bare, ⟨fun b o e n hb hx => ?_, fun b o e n hb hx => ?_, I.base.free, fun b o e hx => ?_, I.base.tups, I.base.frzs, I.base.tbls⟩, ⟨_, hn', fun j y v' e1 e2 e3 => ?_⟩, fun y c e => ?_, I.free, I.freeC, fun p hp => ?_, tracked ⟨oL, hoL, I.free⟩ hs, by simpa using I.len⟩ ⟨_, hs, .inl rfl⟩
    · exact (hs.2 b (Nat.ne_of_lt (Nat.lt_of_lt_of_le (Heap.lt_size e) I.ok.above))).trans (I.base.keep b o e n hb hx)
    · obtain ⟨sl, e1⟩ := I.base.slot b o e n hb hx
      exact ⟨sl, (hs.2 b (Nat.ne_of_lt (Nat.lt_of_lt_of_le (Heap.lt_size e) I.ok.above))).trans e1⟩
    · obtain ⟨o', e1⟩ := I.base.there b o e hx
      exact ⟨o', (hs.2 b (Nat.ne_of_lt (Nat.lt_of_lt_of_le (Heap.lt_size e) I.ok.above))).trans e1⟩
    · by_cases hj : j = i
      · subst hj
        rw [hi] at e1; cases e1
        rw [List.getElem?_set_self hiσ] at e2
        cases e2
        exact ⟨u, r, .inl ⟨hk, by simp⟩⟩
      · rw [List.getElem?_set_ne (Ne.symm hj)] at e2
        obtain ⟨u', r', q⟩ := hl j y v' e1 e2 e3
        refine ⟨u', r', ?_⟩
        rcases q with ⟨k, e⟩ | ⟨k, c, e, z⟩
        · refine .inl ⟨k, ?_⟩
          have : y ≠ x := fun e => hj (nodup_ix hN e1 (e ▸ hi))
          simp [this, e]
        · exact .inr ⟨k, c, e, z.sameBut hs (cne y c e)⟩
    · obtain ⟨w', z⟩ := I.cell y c e
      exact ⟨w', z.sameBut hs (cne y c e)⟩
    · obtain ⟨e, n, ne, nf, d⟩ := I.pin p hp
      exact ⟨(hs.2 p.1 ne).trans e, n, ne, nf, d⟩
  · have hfn : X.fn x = true := by
      rcases hf with z | z
      · exact z
      · rw [z] at hk; cases hk
    obtain ⟨c, hc⟩ := I.ok.has x (.inl hk)
    obtain ⟨w', z⟩ := I.cell x c hc
    refine wpAny_storeName_cell I.ok.kind hk hc z (fun h' hc' hs => ?_)
    obtain ⟨oc, hoc, hocd⟩ := id z
    refine h { s with heap := h' } ⟨I.ok, I.os, I.bare, ⟨fun b o e n hb hx => ?_, fun b o e n hb hx => ?_, I.base.free, fun b o e hx => ?_, I.base.tups, I.base.frzs, I.base.tbls⟩, ⟨m, hn.sameBut hs (Ne.symm (cne x c hc)), fun j y v' e1 e2 e3 => ?_⟩, fun y c' e => ?_, I.free, I.freeC, fun p hp => ?_, tracked ⟨oc, hoc, I.freeC x c hc⟩ hs, by simpa using I.len⟩ ⟨c, hs, .inr hc⟩
    · exact (hs.2 b (Nat.ne_of_lt (Nat.lt_of_lt_of_le (Heap.lt_size e) (I.ok.cab x c hfn hc)))).trans (I.base.keep b o e n hb hx)
    · obtain ⟨sl, e1⟩ := I.base.slot b o e n hb hx
      exact ⟨sl, (hs.2 b (Nat.ne_of_lt (Nat.lt_of_lt_of_le (Heap.lt_size e) (I.ok.cab x c hfn hc)))).trans e1⟩
    · obtain ⟨o', e1⟩ := I.base.there b o e hx
      exact ⟨o', (hs.2 b (Nat.ne_of_lt (Nat.lt_of_lt_of_le (Heap.lt_size e) (I.ok.cab x c hfn hc)))).trans e1⟩
    · by_cases hj : j = i
      · subst hj
        rw [hi] at e1; cases e1
        rw [List.getElem?_set_self hiσ] at e2
        cases e2
        exact ⟨u, r, .inr ⟨.inl hk, c, hc, hc'⟩⟩
      · rw [List.getElem?_set_ne (Ne.symm hj)] at e2
        obtain ⟨u', r', q⟩ := hl j y v' e1 e2 e3
        refine ⟨u', r', ?_⟩
        rcases q with q | ⟨k, c', e, z'⟩
        · exact .inl q
        · refine .inr ⟨k, c', e, z'.sameBut hs ?_⟩
          rintro rfl
          exact hj (nodup_ix hN e1 (I.ok.inj _ _ _ e hc ▸ hi))
    · by_cases hcc : c' = c
      · subst hcc; exact ⟨_, hc'⟩
      · obtain ⟨w2, z2⟩ := I.cell y c' e
        exact ⟨w2, z2.sameBut hs hcc⟩
    · obtain ⟨e, n, ne, nf, d⟩ := I.pin p hp
      refine ⟨(hs.2 p.1 ?_).trans e, n, ne, nf, d⟩
      intro q
      rw [q, hoc] at e
      have q' : oc = p.2 := Option.some.inj e
      exact d w' (by rw [← q']; exact hocd)
theorem store_ok {M : Model} {A : Around} {E : Value → Shared → Prop} {i : Nat} {x : Str} {v : V} {u : Value} {Q : Unit → Shared → Prop} (I : Inv X pins σ H s) (hN : X.N.Nodup) (hi : X.N[i]? = some x) (hx : Loc X.env.scope x) (r : RelV v u)
    (h : ∀ s', Inv X pins (σ.set i (some v)) H s' → Q () s') (hf : autoParam (X.fn x = true ∨ X.env.scope.names.lookup x = some .local) u1._auto_1) : wpAny M A (storeName X.env x u) Q E s :=
  store_ok2 I hN hi hx r (fun s' I' _ => h s' I') hf
theorem Inv.call' {s' : Shared} {ch : List Addr} (I : Inv X pins σ H s) (ho : s'.os = s.os) (u : Un (frs X.stack) ch H H' s.heap s'.heap) (hok : HOk X.prog X.w H' s'.heap) (hg : AllBare s'.gens)
    (hch : ∀ b ∈ ch, (b ∈ X.ex ∨ X.s₀.heap.objs.size ≤ b) ∧ b ≠ X.env.locals ∧ (∀ x c, X.env.cells.lookup x = some c → c ≠ b) ∧ ∀ p ∈ X.pn ++ pins, p.1 ≠ b) : Inv X pins σ H' s' := by
  obtain ⟨h', g', d', t', o'⟩ := s'
  have e : o' = s.os := ho
  subst e
  exact I.call (g' := g') (t' := t') (d' := d') u hok hg hch
end
abbrev XK := Value → Option Addr → Hp → Prop
abbrev St := List (Option V)
abbrev VK := V → Hp → Prop
abbrev TE := St → Hp → VK → Prop
abbrev TT := St → Hp → (Bool → Hp → Prop) → Prop
abbrev TA := St → Hp → (List V → Hp → Prop) → Prop
structure Ends where
  nx : St → Hp → Prop
  rt : VK
  bk : St → Hp → Prop := fun _ _ => False
  ct : St → Hp → Prop := fun _ _ => False
abbrev TS := Ends → St → Hp → Prop
def EP (X : Cx) (pins : List (Addr × Obj)) (σ : St) (Q : VK) (u : Value) (s' : Shared) : Prop := ∃ v H', Inv X pins σ H' s' ∧ RelV v u ∧ Q v H'
def TP (X : Cx) (pins : List (Addr × Obj)) (σ : St) (Q : Bool → Hp → Prop) (b : Bool) (s' : Shared) : Prop := ∃ H', Inv X pins σ H' s' ∧ Q b H'
def AP (X : Cx) (pins : List (Addr × Obj)) (σ : St) (Q : List V → Hp → Prop) (us : List Value) (s' : Shared) : Prop := ∃ vs H', Inv X pins σ H' s' ∧ Vals vs us ∧ Q vs H'
def SP (X : Cx) (pins : List (Addr × Obj)) (D : Ends) (f : Flow) (s' : Shared) : Prop :=
  match f with
  | .next => ∃ σ' H', Inv X pins σ' H' s' ∧ D.nx σ' H'
  | .brk => ∃ σ' H', Inv X pins σ' H' s' ∧ D.bk σ' H'
  | .cont => ∃ σ' H', Inv X pins σ' H' s' ∧ D.ct σ' H'
  | .ret u => ∃ v σ' H', Inv X pins σ' H' s' ∧ RelV v u ∧ D.rt v H'
def PE (X : Cx) (e : Expr) (t : TE) : Prop :=
  ∀ (pins : List (Addr × Obj)) (s : Shared) (σ : St) (H : Hp) (Q : VK), Inv X pins σ H s → t σ H Q → wpAny (model X.prog X.w) X.A (eval e X.env) (EP X pins σ Q) X.xe s
def PT (X : Cx) (e : Expr) (t : TT) : Prop :=
  ∀ (pins : List (Addr × Obj)) (s : Shared) (σ : St) (H : Hp) (Q : Bool → Hp → Prop), Inv X pins σ H s → t σ H Q → wpAny (model X.prog X.w) X.A (isTrue e X.env (eval e X.env)) (TP X pins σ Q) X.xe s
def PW (X : Cx) (e : Expr) (t : TT) : Prop :=
  ∀ (whole : Sem Value) (pins : List (Addr × Obj)) (s : Shared) (σ : St) (H : Hp) (Q : Bool → Hp → Prop), Inv X pins σ H s → t σ H Q → wpAny (model X.prog X.w) X.A (isTrue e X.env whole) (TP X pins σ Q) X.xe s
theorem PW.pt {X : Cx} {e : Expr} {t : TT} (h : PW X e t) : PT X e t := h _
def PA (X : Cx) (es : List Expr) (t : TA) : Prop :=
  ∀ (pos : Pos) (pins : List (Addr × Obj)) (s : Shared) (σ : St) (H : Hp) (Q : List V → Hp → Prop), Inv X pins σ H s → t σ H Q → wpAny (model X.prog X.w) X.A (spliced (backTo pos (starEach es X.env))) (AP X pins σ Q) X.xe s
def PS (X : Cx) (st : Stmt) (t : TS) : Prop :=
  ∀ (pins : List (Addr × Obj)) (s : Shared) (σ : St) (H : Hp) (D : Ends), Inv X pins σ H s → t D σ H → wpAny (model X.prog X.w) X.A (exec st X.env) (SP X pins D) X.xe s
def PSs (X : Cx) (st : List Stmt) (t : TS) : Prop :=
  ∀ (pins : List (Addr × Obj)) (s : Shared) (σ : St) (H : Hp) (D : Ends), Inv X pins σ H s → t D σ H → wpAny (model X.prog X.w) X.A (execs st X.env) (SP X pins D) X.xe s
theorem thn {α : Type} {t : Sem α} {Q Q' : α → Shared → Prop} {M : Model} {A : Around} {E : Value → Shared → Prop} {s : Shared} (h : wpAny M A t Q E s) (hQ : ∀ a s, Q a s → Q' a s) : wpAny M A t Q' E s := wpAny_mono h hQ fun _ _ x => x
end L2
namespace L2
open PySem PySem.Spec PyProof.Rows
section
variable {X : Cx}
def tVar (i : Nat) : TE := fun σ H Q => ∃ v, σ[i]? = some (some v) ∧ Q v H
def tC (v : V) : TE := fun _ H Q => Q v H
theorem pe_var {i : Nat} {x : Str} {pos : Pos} (hN : X.N[i]? = some x) (hv : Vis X.env.scope x) (hd : autoParam ((x == ("__debug__" : Str)) = false) u2._auto_1) (hcd : autoParam ((x == ("__classdict__" : Str)) = false) u2._auto_1) : PE X (.Name x pos) (tVar i) := by
  intro pins s σ H Q I h
  obtain ⟨v, e, h⟩ := h
  obtain ⟨m, hn, hl⟩ := I.loc
  obtain ⟨u, r, l⟩ := hl i x v hN e hv
  have fin : EP X pins σ Q u s := ⟨v, H, I, r, h⟩
  rcases l with ⟨hk, hm⟩ | ⟨hk, c, hc, hcell⟩
  · exact wpAny_Name (wpAny_loadName_local I.ok.kind hk hn hm fin) hd
  · rcases hk with hk | hk
    · exact wpAny_Name (wpAny_loadName_cell I.ok.kind hk hc hcell fin) hd
    · exact wpAny_Name (wpAny_loadName_free I.ok.kind hk hc hcell fin hcd) hd
theorem pe_int {i j pos} : PE X (.Constant (.int i) j pos) (tC (.int i)) := fun _ _ _ H _ I h => wpAny_Constant_int ⟨.int i, H, I.tok _, ⟨_, rfl⟩, h⟩
theorem pe_bl {b j pos} : PE X (.Constant (.bool b) j pos) (tC (.bl b)) := fun _ _ _ H _ I h => Constant_bool ⟨.bl b, H, I, rfl, h⟩
theorem pe_non {j pos} : PE X (.Constant .none j pos) (tC .non) := fun _ _ _ H _ I h => Constant_none ⟨.non, H, I, rfl, h⟩
def Gl (X : Cx) (x : Str) : Prop := X.env.kindOf x = some .globalImplicit
theorem ld_glob {E : Value → Shared → Prop} {pins : List (Addr × Obj)} {s : Shared} {σ : St} {H : Hp} {x : Str} {u : Value} {pos : Pos} {Q : Value → Shared → Prop} (I : Inv X pins σ H s) (hg : Gl X x) (hm : X.mg x = some u) (h : Q u s)
    (hd : autoParam ((x == ("__debug__" : Str)) = false) u2._auto_1) : wpAny (model X.prog X.w) X.A (eval (.Name x pos) X.env) Q E s :=
  Calls.Name_function_global I.ok.kind hg (Calls.loadGlobal_global (by rw [I.ok.glob]; exact I.mod.glob.keeps I.bk) hm h) hd
theorem ld_blt {E : Value → Shared → Prop} {pins : List (Addr × Obj)} {s : Shared} {σ : St} {H : Hp} {x : Str} {u : Value} {pos : Pos} {Q : Value → Shared → Prop} (I : Inv X pins σ H s) (hg : Gl X x) (hm : X.mg x = none) (hv : bootBuiltins x = some u) (h : Q u s)
    (hn : autoParam (x ≠ "__name__") u2._auto_1) (hd : autoParam ((x == ("__debug__" : Str)) = false) u2._auto_1) : wpAny (model X.prog X.w) X.A (eval (.Name x pos) X.env) Q E s := by
  obtain ⟨mb, h1, h2⟩ := I.mod.blt
  exact Calls.Name_function_global I.ok.kind hg (Calls.loadGlobal_builtin (by rw [I.ok.glob]; exact I.mod.glob.keeps I.bk) hm (by rw [I.ok.blt]; exact h1.keeps I.bk) ((h2 x hn).trans hv) h) hd
theorem pe_glob {x : Str} {v : V} {u : Value} {pos : Pos} (hg : Gl X x) (hm : X.mg x = some u) (r : RelV v u) (hd : autoParam ((x == ("__debug__" : Str)) = false) u2._auto_1) : PE X (.Name x pos) (tC v) :=
  fun _ _ _ H _ I h => ld_glob I hg hm ⟨v, H, I, r, h⟩ hd
variable {a b : Expr} {ta tb : TE} {pos : Pos}
def PC (X : Cx) (op : CmpOp) (a b : Expr) (t : TE) : Prop :=
  ∀ (pins : List (Addr × Obj)) (s : Shared) (σ : St) (H : Hp) (Q : VK), Inv X pins σ H s → t σ H Q →
    wpAny (model X.prog X.w) X.A (eval a X.env) (fun v s₁ => wpAny (model X.prog X.w) X.A (eval b X.env) (fun u s₂ => wpAny (model X.prog X.w) X.A (compareOp op v u) (EP X pins σ Q) X.xe s₂) X.xe s₁) X.xe s
theorem nobehind (b : Expr) {op : CmpOp} (h : op ≠ .In) (h2 : op ≠ .NotIn) : behindInMarks op b = false := by
  have e1 : (op == CmpOp.In) = false := by cases op <;> first | rfl | exact absurd rfl h
  have e2 : (op == CmpOp.NotIn) = false := by cases op <;> first | rfl | exact absurd rfl h2
  cases b <;> simp [behindInMarks, e1, e2]
def tB (t : TE) : TT := fun σ H Q => t σ H fun x H1 => ∃ c, x = .bl c ∧ Q c H1
theorem pt_cmp {op : CmpOp} {t : TE} (h : PC X op a b t) (h1 : autoParam (behindInMarks op b = false) u3._auto_1) : PT X (.Compare a [op] [b] pos) (tB t) := by
  intro pins s σ H Q I hw
  refine wpAny_isTrue_Compare1 (thn (h pins s σ H _ I hw) fun v s1 h1 => thn h1 fun u s2 h2 => thn h2 fun c s3 ⟨x, H1, I1, r1, q1⟩ => ?_) h1
  obtain ⟨d, rfl, q⟩ := q1
  cases r1
  exact wpAny_truthy_bool ⟨H1, I1, q⟩
theorem pt_val {e : Expr} {t : TE} (h : PE X e t) (he : autoParam (∀ whole, isTrue e X.env whole = (do let v ← whole; standAt e.pos; holding [v] (truthy v))) u4._auto_1) : PT X e (tB t) := by
  intro pins s σ H Q I hw
  refine isTrue_plain (thn (h pins s σ H _ I hw) fun v s1 ⟨x, H1, I1, r1, q1⟩ => ?_) (he _)
  obtain ⟨d, rfl, q⟩ := q1
  cases r1
  exact wpAny_truthy_bool ⟨H1, I1, q⟩
variable {tA tB' : TT} {rest : List Expr}
def tAnd (t u : TT) : TT := fun σ H Q => t σ H fun c H1 => if c = true then u σ H1 Q else Q false H1
def tOr (t u : TT) : TT := fun σ H Q => t σ H fun c H1 => if c = true then Q true H1 else u σ H1 Q
def tNot (t : TT) : TT := fun σ H Q => t σ H fun c H1 => Q (!c) H1
theorem pw_and1 (ha : PT X a tA) : PW X (.BoolOp .And [a] pos) tA := by
  intro wh pins s σ H Q I h
  refine isTrue_and (thn (ha pins s σ H Q I h) fun c s1 e => ?_)
  cases c with
  | true => exact isTrue_and_nil e
  | false => exact e
theorem pw_or1 (ha : PT X a tA) : PW X (.BoolOp .Or [a] pos) tA := by
  intro wh pins s σ H Q I h
  refine isTrue_or (thn (ha pins s σ H Q I h) fun c s1 e => ?_)
  cases c with
  | false => exact isTrue_or_nil e
  | true => exact e
theorem pw_and (ha : PT X a tA) (hb : PW X (.BoolOp .And (b :: rest) pos) tB') : PW X (.BoolOp .And (a :: b :: rest) pos) (tAnd tA tB') := by
  intro wh pins s σ H Q I h
  refine isTrue_and (thn (ha pins s σ H _ I h) fun c s1 ⟨H1, I1, q1⟩ => ?_)
  cases c with
  | true => exact hb wh pins s1 σ H1 Q I1 q1
  | false => exact ⟨H1, I1, q1⟩
theorem pw_or (ha : PT X a tA) (hb : PW X (.BoolOp .Or (b :: rest) pos) tB') : PW X (.BoolOp .Or (a :: b :: rest) pos) (tOr tA tB') := by
  intro wh pins s σ H Q I h
  refine isTrue_or (thn (ha pins s σ H _ I h) fun c s1 ⟨H1, I1, q1⟩ => ?_)
  cases c with
  | true => exact ⟨H1, I1, q1⟩
  | false => exact hb wh pins s1 σ H1 Q I1 q1
theorem pt_not (ha : PT X a tA) : PT X (.UnaryOp .Not a pos) (tNot tA) := by
  intro pins s σ H Q I h
  exact isTrue_not (ha pins s σ H (fun c H1 => Q (!c) H1) I h)
def tAndV (ta tb : TE) : TE := fun σ H Q => ta σ H fun x H1 => ∃ c, x = .bl c ∧ if c = true then tb σ H1 Q else Q (.bl false) H1
def tOrV (ta tb : TE) : TE := fun σ H Q => ta σ H fun x H1 => ∃ c, x = .bl c ∧ if c = true then Q (.bl true) H1 else tb σ H1 Q
theorem pe_one {op} {t : TE} (h : PE X a t) : PE X (.BoolOp op [a] pos) t := fun pins s σ H Q I hw => BoolOp_one (h pins s σ H Q I hw)
theorem pe_and (ha : PE X a ta) (hb : PE X (.BoolOp .And (b :: rest) pos) tb) : PE X (.BoolOp .And (a :: b :: rest) pos) (tAndV ta tb) := by
  intro pins s σ H Q I h
  refine BoolOp_and (thn (ha pins s σ H _ I h) fun v s1 ⟨x, H1, I1, r1, q1⟩ => ?_)
  obtain ⟨c, rfl, q1⟩ := q1
  cases r1
  refine wpAny_truthy_bool ?_
  cases c with
  | true => exact hb pins s1 σ H1 Q I1 q1
  | false => exact ⟨.bl false, H1, I1, rfl, q1⟩
theorem pe_or (ha : PE X a ta) (hb : PE X (.BoolOp .Or (b :: rest) pos) tb) : PE X (.BoolOp .Or (a :: b :: rest) pos) (tOrV ta tb) := by
  intro pins s σ H Q I h
  refine BoolOp_or (thn (ha pins s σ H _ I h) fun v s1 ⟨x, H1, I1, r1, q1⟩ => ?_)
  obtain ⟨c, rfl, q1⟩ := q1
  cases r1
  refine wpAny_truthy_bool ?_
  cases c with
  | false => exact hb pins s1 σ H1 Q I1 q1
  | true => exact ⟨.bl true, H1, I1, rfl, q1⟩
def tIf (t : TT) (ta tb : TE) : TE := fun σ H Q => t σ H fun c H1 => if c = true then ta σ H1 Q else tb σ H1 Q
theorem pe_ifExp {c : Expr} (hc : PT X c tA) (ha : PE X a ta) (hb : PE X b tb) : PE X (.IfExp c a b pos) (tIf tA ta tb) := by
  intro pins s σ H Q I h
  refine wpAny_IfExp (thn (hc pins s σ H _ I h) fun d s1 ⟨H1, I1, q1⟩ => ?_)
  cases d with
  | true => exact ha pins s1 σ H1 Q I1 q1
  | false => exact hb pins s1 σ H1 Q I1 q1
end
end L2
namespace L2
open PySem PySem.Spec PyProof.Rows
def SqL (K : PySem.W.Frag) (H : Hp) (a : Addr) (xs : List V) : Prop :=
  Rd H a (.lst xs) ∨
    ∃ (o : Obj) (its : Array Value) (n : Nat), K.lookup a = some o ∧ o.cls = .type "list" ∧ o.dict = none ∧ o.data = .seq its n ∧ its.size ≤ sizeLine ∧ Vals xs its.toList
def SqT (K : PySem.W.Frag) (H : Hp) (a : Addr) (xs : List V) : Prop :=
  Rd H a (.tup xs) ∨
    ∃ (o : Obj) (its : Array Value) (n : Nat), K.lookup a = some o ∧ o.cls = .type "tuple" ∧ o.data = .seq its n ∧ its.size ≤ sizeLine ∧ Vals xs its.toList
def absV : Value → Option V
  | .none => some .non
  | .bool b => some (.bl b)
  | .int i _ => some (.int i)
  | .str x _ => some (.str x)
  | .bytes b _ => some (.byt b)
  | .float b _ => some (.flt b)
  | .ref a => some (.ref a)
  | .type n => some (.ty n)
  | _ => none
theorem RelV.abs {x : V} {u : Value} (r : RelV x u) : absV u = some x := by
  cases x with
  | non => cases r; rfl
  | bl _ => cases r; rfl
  | int _ => obtain ⟨t, rfl⟩ := r; rfl
  | str _ => obtain ⟨t, rfl⟩ := r; rfl
  | byt _ => obtain ⟨t, rfl⟩ := r; rfl
  | flt _ => obtain ⟨t, rfl⟩ := r; rfl
  | ref _ => cases r; rfl
  | ty _ => cases r; rfl
theorem RelV.inj {x y : V} {u : Value} (r : RelV x u) (q : RelV y u) : x = y := Option.some.inj (r.abs.symm.trans q.abs)
theorem Vals.inj : ∀ {xs ys : List V} {us : List Value}, Vals xs us → Vals ys us → xs = ys
  | _, _, _, .nil, .nil => rfl
  | _, _, _, .cons r t, .cons r' t' => by rw [r.inj r', Vals.inj t t']
section
variable {X : Cx} {pins : List (Addr × Obj)} {σ : St} {H : Hp} {s : Shared} {a : Addr} {xs ys : List V}
theorem SqL.of {K : PySem.W.Frag} (h : H a = some (.lst xs)) : SqL K H a xs := .inl (.inl h)
theorem SqT.of {K : PySem.W.Frag} (h : H a = some (.tup xs)) : SqT K H a xs := .inl (.inl h)
theorem Inv.list (I : Inv X pins σ H s) (h : SqL X.K H a xs) : ∃ its : List Value, Vals xs its ∧ PlainL s.heap a its.toArray ∧ xs.length ≤ sizeLine := by
  rcases h with h | ⟨o, its, n, hk, hc, hd, hs, hz, r⟩
  · obtain ⟨z, its, n, r, e⟩ := h.ok I.hok
    exact ⟨its, r, ⟨_, n, e, rfl, rfl, rfl⟩, z⟩
  · refine ⟨its.toList, r, ⟨o, n, I.kIn a o hk, hc, hd, by simpa using hs⟩, ?_⟩
    have e := r.length
    simp only [Array.length_toList] at e
    omega
theorem Inv.tuple (I : Inv X pins σ H s) (h : SqT X.K H a xs) : ∃ its : List Value, Vals xs its ∧ IsTup s.heap a its.toArray ∧ xs.length ≤ sizeLine := by
  rcases h with h | ⟨o, its, n, hk, hc, hs, hz, r⟩
  · obtain ⟨z, its, r, p⟩ := h.ok I.hok
    exact ⟨its, r, p, z⟩
  · refine ⟨its.toList, r, ⟨o, I.kIn a o hk, hc, n, by simpa using hs⟩, ?_⟩
    have e := r.length
    simp only [Array.length_toList] at e
    omega
theorem Inv.list_inj (I : Inv X pins σ H s) (h : SqL X.K H a xs) (h' : SqL X.K H a ys) : xs = ys := by
  obtain ⟨its, r, ⟨o, n, e, _, _, d⟩, _⟩ := I.list h
  obtain ⟨its', r', ⟨o', n', e', _, _, d'⟩, _⟩ := I.list h'
  rw [e] at e'; cases e'
  rw [d] at d'
  injection d' with d1 _
  have : its = its' := by simpa using congrArg Array.toList d1
  subst this
  exact r.inj r'
theorem Inv.tuple_inj (I : Inv X pins σ H s) (h : SqT X.K H a xs) (h' : SqT X.K H a ys) : xs = ys := by
  obtain ⟨its, r, ⟨o, e, _, n, d⟩, _⟩ := I.tuple h
  obtain ⟨its', r', ⟨o', e', _, n', d'⟩, _⟩ := I.tuple h'
  rw [e] at e'; cases e'
  rw [d] at d'
  injection d' with d1 _
  have : its = its' := by simpa using congrArg Array.toList d1
  subst this
  exact r.inj r'
end
abbrev Cx.wish (X : Cx) (E : Value → Shared → Prop) : Cx := { X with xe := E }
abbrev Cx.nox (X : Cx) : Cx := X.wish fun _ _ => False
theorem Cx.Ok.wish {X : Cx} (ok : X.Ok) (E : Value → Shared → Prop) : (X.wish E).Ok :=
  ⟨ok.mod, ok.kind, ok.glob, ok.blt, ok.above, ok.inj, ok.has, ok.cab, ok.hd, ok.frames, ok.stk, ok.exf, ok.bs, ok.bsz, ok.noex, ok.exfs, ok.funs, ok.frf⟩
theorem Cx.Ok.unwish {X : Cx} {E : Value → Shared → Prop} (ok : (X.wish E).Ok) : X.Ok :=
  ⟨ok.mod, ok.kind, ok.glob, ok.blt, ok.above, ok.inj, ok.has, ok.cab, ok.hd, ok.frames, ok.stk, ok.exf, ok.bs, ok.bsz, ok.noex, ok.exfs, ok.funs, ok.frf⟩
section
variable {X : Cx} {pins : List (Addr × Obj)} {σ : St} {H : Hp} {s : Shared} {E : Value → Shared → Prop}
theorem Inv.wish (I : Inv X pins σ H s) (E : Value → Shared → Prop) : Inv (X.wish E) pins σ H s := ⟨I.ok.wish E, I.os, I.bare, I.base, I.loc, I.cell, I.free, I.freeC, I.pin, I.hok, I.len⟩
theorem Inv.unwish (I : Inv (X.wish E) pins σ H s) : Inv X pins σ H s := ⟨I.ok.unwish, I.os, I.bare, I.base, I.loc, I.cell, I.free, I.freeC, I.pin, I.hok, I.len⟩
theorem SP.unwish {D : Ends} {f : Flow} {s' : Shared} (h : SP (X.wish E) pins D f s') : SP X pins D f s' := by
  cases f with
  | next => obtain ⟨σ', H', I, q⟩ := h; exact ⟨σ', H', I.unwish, q⟩
  | brk => obtain ⟨σ', H', I, q⟩ := h; exact ⟨σ', H', I.unwish, q⟩
  | cont => obtain ⟨σ', H', I, q⟩ := h; exact ⟨σ', H', I.unwish, q⟩
  | ret u => obtain ⟨v, σ', H', I, r, q⟩ := h; exact ⟨v, σ', H', I.unwish, r, q⟩
theorem PSs.nox {st : List Stmt} {t : TS} (h : PSs X.nox st t) : PSs X st t := fun pins s σ H D I hw =>
  wpAny_mono (h pins s σ H D (I.wish _) hw) (fun _ _ q => q.unwish) fun _ _ z => False.elim z
end
section
variable {X : Cx} {st : Stmt} {rest : List Stmt} {t u : TS} {e : Expr} {te : TE} {pos : Pos}
def tNext : TS := fun D σ H => D.nx σ H
def tSeq (t u : TS) : TS := fun D σ H => t { D with nx := u D } σ H
theorem pss_nil : PSs X [] tNext := fun _ _ σ H _ I h => wpAny_execs_nil ⟨σ, H, I, h⟩
theorem pss_cons (h1 : PS X st t) (h2 : PSs X rest u) : PSs X (st :: rest) (tSeq t u) := by
  intro pins s σ H D I h
  refine wpAny_execs_cons (thn (h1 pins s σ H { D with nx := u D } I h) fun f s1 q => ?_)
  cases f with
  | next =>
    obtain ⟨σ', H', I', q⟩ := q
    exact h2 pins s1 σ' H' D I' q
  | ret v => exact q
  | brk => exact q
  | cont => exact q
theorem pss_one (h1 : PS X st t) : PSs X [st] t := by
  intro pins s σ H D I h
  refine wpAny_execs_cons (thn (h1 pins s σ H D I h) fun f s1 q => ?_)
  cases f with
  | next => exact wpAny_execs_nil q
  | ret v => exact q
  | brk => exact q
  | cont => exact q
theorem Inv.quiet {pins : List (Addr × Obj)} {σ : St} {H : Hp} {s : Shared} (I : Inv X pins σ H s) : interactive X.env = false := by simp [interactive, I.ok.kind]
def tDrop (te : TE) : TS := fun D σ H => te σ H fun _ H1 => D.nx σ H1
theorem ps_expr (he : PE X e te) (hs : autoParam (swapsWith e none pos.line X.env = pure false) u5._auto_1) : PS X (.Expr e pos) (tDrop te) := by
  intro pins s σ H D I h
  exact wpAny_Expr_any (thn (he pins s σ H _ I h) fun v s1 ⟨x, H1, I1, r1, q1⟩ => ⟨σ, H1, I1, q1⟩) I.quiet hs
def tRet (te : TE) : TS := fun D σ H => te σ H D.rt
theorem ps_ret (he : PE X e te) : PS X (.Return (some e) pos) (tRet te) := by
  intro pins s σ H D I h
  exact wpAny_Return_some (thn (he pins s σ H _ I h) fun v s1 ⟨x, H1, I1, r1, q1⟩ => ⟨x, σ, H1, I1, r1, q1⟩)
def tIfS (c : TT) (t u : TS) : TS := fun D σ H => c σ H fun b H1 => if b = true then t D σ H1 else u D σ H1
theorem ps_if {c : Expr} {a b : List Stmt} {tc : TT} (hc : PT X c tc) (ha : PSs X a t) (hb : PSs X b u) : PS X (.If c a b pos) (tIfS tc t u) := by
  intro pins s σ H D I h
  refine wpAny_If (thn (hc pins s σ H _ I h) fun d s1 ⟨H1, I1, q1⟩ => ?_)
  cases d with
  | true => exact ha pins s1 σ H1 D I1 q1
  | false => exact hb pins s1 σ H1 D I1 q1
def tNever : TS := fun _ _ _ => False
theorem ps_never : PS X st tNever := fun _ _ _ _ _ _ h => h.elim
end
abbrev TG := V → St → Hp → (St → Hp → Prop) → Prop
abbrev TGs := List V → St → Hp → (St → Hp → Prop) → Prop
def PG (X : Cx) (target : Expr) (t : TG) : Prop :=
  ∀ (pins : List (Addr × Obj)) (s : Shared) (σ : St) (H : Hp) (v : V) (u : Value) (Q : St → Hp → Prop), Inv X pins σ H s → RelV v u → t v σ H Q →
    wpAny (model X.prog X.w) X.A (assign target X.env u) (fun _ s' => ∃ σ' H', Inv X pins σ' H' s' ∧ Q σ' H') X.xe s
def PGs (X : Cx) (ts : List Expr) (t : TGs) : Prop :=
  ∀ (pins : List (Addr × Obj)) (s : Shared) (σ : St) (H : Hp) (vs : List V) (us : List Value) (Q : St → Hp → Prop), Inv X pins σ H s → Vals vs us → t vs σ H Q →
    wpAny (model X.prog X.w) X.A (assignInOrder ((assignEach ts X.env).map (·.2)) us) (fun _ s' => ∃ σ' H', Inv X pins σ' H' s' ∧ Q σ' H') X.xe s
abbrev TSet := V → V → V → Hp → (Hp → Prop) → Prop
def PSet (X : Cx) (t : TSet) : Prop :=
  ∀ (pins : List (Addr × Obj)) (s : Shared) (σ : St) (H : Hp) (o i v : V) (ov iv u : Value) (Q : Hp → Prop), Inv X pins σ H s → RelV o ov → RelV i iv → RelV v u → t o i v H Q →
    wpAny (model X.prog X.w) X.A (setItem ov iv u) (fun _ s' => ∃ H', Inv X pins σ H' s' ∧ Q H') X.xe s
section
variable {X : Cx} {pos : Pos}
def gName (i : Nat) : TG := fun v σ H Q => Q (σ.set i (some v)) H
theorem pg_name {i : Nat} {x : Str} (hN : X.N.Nodup) (hi : X.N[i]? = some x) (hx : Loc X.env.scope x) (hf : autoParam (X.fn x = true ∨ X.env.scope.names.lookup x = some .local) u1._auto_1) : PG X (.Name x pos) (gName i) := by
  intro pins s σ H v u Q I r h
  exact wpAny_assign_Name (store_ok I hN hi hx r (fun s' I' => ⟨_, H, I', h⟩) hf)
def gNil : TGs := fun vs σ H Q => vs = [] ∧ Q σ H
def gCons (t : TG) (u : TGs) : TGs := fun vs σ H Q => ∃ v r, vs = v :: r ∧ t v σ H fun σ' H' => u r σ' H' Q
theorem pgs_nil : PGs X [] gNil := by
  intro pins s σ H vs us Q I r h
  obtain ⟨e, h⟩ := h
  subst e
  cases r
  exact assignInOrder_nil ⟨σ, H, I, h⟩
theorem pgs_cons {e : Expr} {es : List Expr} {t : TG} {u : TGs} (h1 : PG X e t) (h2 : PGs X es u)
    (hs : autoParam ((assignEach (e :: es) X.env).map (·.2) = assign e X.env :: (assignEach es X.env).map (·.2)) u5._auto_1) : PGs X (e :: es) (gCons t u) := by
  intro pins s σ H vs us Q I r h
  obtain ⟨v, vr, e1, h⟩ := h
  subst e1
  cases r with
  | cons r rr =>
    rw [hs]
    refine assignInOrder_cons (thn (h1 pins s σ H _ _ _ I r h) fun _ s1 ⟨σ1, H1, I1, q1⟩ => ?_)
    exact h2 pins s1 σ1 H1 _ _ Q I1 rr q1
def gTup (K : PySem.W.Frag) (n : Nat) (t : TGs) : TG := fun v σ H Q => ∃ a xs, v = .ref a ∧ SqT K H a xs ∧ xs.length = n ∧ t xs σ H Q
theorem pg_tup {es : List Expr} {k : Nat} {t : TGs} {n : Nat} (hc : X.calm = true) (h : PGs X es t)
    (hn : autoParam ((assignEach es X.env).length = n) u5._auto_1) (hst : autoParam ((assignEach es X.env).findIdx? (·.1) = none) u5._auto_1) : PG X (.Tuple es k pos) (gTup X.K n t) := by
  intro pins s σ H v u Q I r hw
  obtain ⟨a, xs, e1, hq, hl, hw⟩ := hw
  subst e1
  cases r
  obtain ⟨its, rv, ht, hz⟩ := I.tuple hq
  refine assign_Tuple_tuple (I.ok.hd hc) ht (by simp [hn, ← hl, rv.length]) hst fun h' hx => ?_
  have I1 : Inv X pins σ H { s with heap := h' } := I.kept (t' := s.toks) fun b o e => hx b o (Nat.ne_of_lt (Heap.lt_size e)) e
  exact h pins _ σ H xs _ Q I1 (by simpa using rv) hw
def gSub (to ti : TE) (t : TSet) : TG := fun v σ H Q => to σ H fun o H1 => ti σ H1 fun i H2 => t o i v H2 fun H3 => Q σ H3
theorem pg_sub {o i : Expr} {to ti : TE} {t : TSet} (ho : PE X o to) (hi : PE X i ti) (hs : PSet X t)
    (ha : autoParam (∀ v, assign (.Subscript o i pos) X.env v = (do
      let ov ← holding [v] (eval o X.env)
      let iv ← holding [v, ov] (eval i X.env)
      standAt pos
      holding [v, ov, iv] (setItem ov iv v)
      release [v, ov, iv] [])) u4._auto_1) : PG X (.Subscript o i pos) (gSub to ti t) := by
  intro pins s σ H v u Q I r h
  rw [ha]
  refine wpAny_bind (wpAny_holding (thn (ho pins s σ H _ I h) fun ov s1 ⟨x, H1, I1, r1, q1⟩ => ?_))
  refine wpAny_bind (wpAny_holding (thn (hi pins s1 σ H1 _ I1 q1) fun iv s2 ⟨y, H2, I2, r2, q2⟩ => ?_))
  refine wpAny_bind (wpAny_standAt (wpAny_bind (wpAny_holding (thn (hs pins s2 σ H2 x y v ov iv u _ I2 r1 r2 r q2) fun _ s3 ⟨H3, I3, q3⟩ => ?_))))
  exact wpAny_release ⟨σ, H3, I3, q3⟩
def tAsg (te : TE) (g : TG) : TS := fun D σ H => te σ H fun x H1 => g x σ H1 D.nx
theorem ps_asg {tg e : Expr} {te : TE} {g : TG} (he : PE X e te) (hg : PG X tg g) (hs : autoParam (swapsWithSole [tg] e pos.line X.env = pure false) u5._auto_1) (hw : autoParam (swappedStores [tg] e X.env = pure none) u5._auto_1)
    (h1 : autoParam ((assignEach [tg] X.env).map (·.2) = [assign tg X.env]) u5._auto_1) : PS X (.Assign [tg] e pos) (tAsg te g) := by
  intro pins s σ H D I h
  refine wpAny_Assign_stores (thn (he pins s σ H _ I h) fun v s1 ⟨x, H1, I1, r1, q1⟩ => ?_) hs hw
  rw [h1]
  exact thn (hg pins s1 σ H1 x v _ I1 r1 q1) fun _ s2 q => q
theorem ps_set {i : Nat} {x : Str} {e : Expr} {te : TE} {pos' : Pos} (hN : X.N.Nodup) (hi : X.N[i]? = some x) (hx : Loc X.env.scope x) (he : PE X e te) (hs : autoParam (swapsWith e (some (.Name x pos')) pos.line X.env = pure false) u5._auto_1) (hf : autoParam (X.fn x = true ∨ X.env.scope.names.lookup x = some .local) u1._auto_1) :
    PS X (.Assign [.Name x pos'] e pos) (tAsg te (gName i)) := by
  intro pins s σ H D I h
  refine wpAny_Assign_Name (thn (he pins s σ H _ I h) fun v s1 ⟨y, H1, I1, r1, q1⟩ => ?_) hs
  exact store_ok I1 hN hi hx r1 (fun s2 I2 => ⟨_, H1, I2, q1⟩) hf
end
section
variable {X : Cx} {pos : Pos}
def tWhile (c : TT) (tb : TS) : TS := fun D σ H => ∃ W : Nat → St → Hp → Prop, (∃ m, W m σ H) ∧ ∀ m σ H, W m σ H →
  c σ H fun b H1 => if b = true then ∃ N : St → Hp → Prop, (∀ σ' H', N σ' H' → ∃ m', m' < m ∧ W m' σ' H') ∧ tb { D with nx := N, ct := N, bk := D.nx } σ H1 else D.nx σ H1
theorem ps_while {c : Expr} {body : List Stmt} {tc : TT} {tb : TS} (hp : PassesOwn (model X.prog X.w) X.A X.env X.xe) (hc : PT X c tc) (hb : PSs X body tb) : PS X (.While c body [] pos) (tWhile tc tb) := by
  intro pins s σ H D I h
  obtain ⟨W, ⟨m0, w0⟩, turn⟩ := h
  refine wpAny_While (codeAny_whileLoop (fun n s' => ∃ σ' H', Inv X pins σ' H' s' ∧ W n σ' H') ?_ m0 ⟨σ, H, I, w0⟩)
  rintro n s1 ⟨σ1, H1, I1, w1⟩
  refine wpAny_passesOwn hp (thn (hc pins s1 σ1 H1 _ I1 (turn n σ1 H1 w1)) fun b s2 ⟨H2, I2, q2⟩ => ?_)
  cases b with
  | true =>
    obtain ⟨N, hN, q2⟩ := q2
    rw [if_pos rfl]
    refine wpAny_passesOwn hp (thn (hb pins s2 σ1 H2 _ I2 q2) fun f s3 q3 => ?_)
    cases f with
    | next =>
      obtain ⟨σ3, H3, I3, n3⟩ := q3
      obtain ⟨m', hm, w3⟩ := hN σ3 H3 n3
      exact ⟨m', hm, σ3, H3, I3, w3⟩
    | cont =>
      obtain ⟨σ3, H3, I3, n3⟩ := q3
      obtain ⟨m', hm, w3⟩ := hN σ3 H3 n3
      exact ⟨m', hm, σ3, H3, I3, w3⟩
    | brk => exact q3
    | ret v => exact q3
  | false =>
    rw [if_neg Bool.false_ne_true]
    exact wpAny_execs_nil ⟨σ1, H2, I2, q2⟩
end
structure It where
  go : Nat → Hp → Prop
  yld : Nat → Hp → V → Hp → Prop
  stop : Nat → Hp → Prop
def FpOk (X : Cx) (pins : List (Addr × Obj)) (H : Hp) (b : Addr) : Prop :=
  H b = none ∧ b ≠ X.env.locals ∧ b ∉ X.fs ∧ (b ∈ X.ex ∨ X.s₀.heap.objs.size ≤ b) ∧ (∀ x c, X.env.cells.lookup x = some c → c ≠ b) ∧ ∀ p ∈ X.pn ++ pins, p.1 ≠ b
theorem Inv.fpOk {X : Cx} {pins : List (Addr × Obj)} {σ : St} {H H' : Hp} {s : Shared} {b : Addr} (I : Inv X pins σ H s) (hb : s.heap.objs.size ≤ b) (hn : H' b = none) : FpOk X pins H' b := by
  refine ⟨hn, Nat.ne_of_gt (Nat.lt_of_lt_of_le I.lt hb), I.nofs hb, .inr (Nat.le_trans I.sz hb), fun x c e z => ?_, fun p hp z => ?_⟩
  · obtain ⟨v, q⟩ := I.cell x c e
    exact absurd (Nat.lt_of_lt_of_le q.lt (by rw [z]; exact hb)) (Nat.lt_irrefl _)
  · exact absurd (Nat.lt_of_lt_of_le (Heap.lt_size (I.pin p hp).1) (by rw [z]; exact hb)) (Nat.lt_irrefl _)
structure Turn (P : Program) (w : World) (K : PySem.W.Frag) (tg : Expr) (J : It) (fp : List Addr) (it : Addr) (tn : Nat → Heap → Prop) : Prop where
  mem : it ∈ fp
  obj : ∀ i h, tn i h → ∀ b ∈ fp, ∃ o, h.get? b = some o ∧ ∀ v, o.data ≠ .cell v
  keep : ∀ i h h', tn i h → (∀ b ∈ fp, ∀ o, h.get? b = some o → h'.get? b = some o) → tn i h'
  item : ∀ (X : Cx), X.prog = P → X.w = w → X.K = K → X.calm = true → ∀ (i : Nat) (pins : List (Addr × Obj)) (s : Shared) (σ : St) (H : Hp) (E : Value → Shared → Prop), Inv X pins σ H s → (∀ b ∈ fp, FpOk X pins H b) → tn i s.heap → J.go i H →
    wpAny (model P w) X.A (pyNext (.ref it)) (fun r s1 => ∃ u, r = some u ∧
      wpAny (model P w) X.A (letOwnedTupleGo tg (.ref it) u) (fun _ s2 => ∃ x H', Inv X pins σ H' s2 ∧ RelV x u ∧ J.yld i H x H' ∧ tn (i + 1) s2.heap ∧ ∀ b ∈ fp, H' b = none) E s1) E s
  done : ∀ (X : Cx), X.prog = P → X.w = w → X.K = K → X.calm = true → ∀ (i : Nat) (pins : List (Addr × Obj)) (s : Shared) (σ : St) (H : Hp) (E : Value → Shared → Prop), Inv X pins σ H s → (∀ b ∈ fp, FpOk X pins H b) → tn i s.heap → J.stop i H →
    wpAny (model P w) X.A (pyNext (.ref it)) (fun r s1 => r = none ∧ Inv X pins σ H s1) E s
  self : ∀ (A : Around) (i : Nat) (s : Shared) (Q : Value → Shared → Prop) (E : Value → Shared → Prop), tn i s.heap → Q (.ref it) s → wpAny (model P w) A (pyIter (.ref it)) Q E s
abbrev TI := St → Hp → (It → Hp → Prop) → Prop
def PIE (X : Cx) (pins : List (Addr × Obj)) (σ : St) (tg : Expr) (R : It → Hp → Prop) (itv : Value) (s2 : Shared) : Prop :=
  ∃ (it : Addr) (fp : List Addr) (tn : Nat → Heap → Prop) (J : It) (H' : Hp), itv = .ref it ∧ Inv X pins σ H' s2 ∧ Turn X.prog X.w X.K tg J fp it tn ∧ tn 0 s2.heap ∧ (∀ b ∈ fp, FpOk X pins H' b) ∧ R J H'
def PI (X : Cx) (tg iter : Expr) (wi : TI) : Prop :=
  ∀ (pins : List (Addr × Obj)) (s : Shared) (σ : St) (H : Hp) (R : It → Hp → Prop), Inv X pins σ H s → wi σ H R →
    wpAny (model X.prog X.w) X.A (eval iter X.env) (fun v s1 => wpAny (model X.prog X.w) X.A (pyIter v) (PIE X pins σ tg R) X.xe s1) X.xe s
theorem go_of {M : Model} {A : Around} {E : Value → Shared → Prop} {s : Shared} {tg : Expr} {it : Addr} {u : Value} {o : Obj} {n : String} {vs : Array Value} {Q : Unit → Shared → Prop} (ho : s.heap.get? it = some o) (hc : o.cls = .type n) (hd : o.data = .fields vs)
    (hn : ["enumerate", "zip", "dict_itemiterator", "dict_reverseitemiterator", "odict_iterator", "itertools.zip_longest", "itertools.pairwise"].contains n = false) (hQ : Q () s) : wpAny M A (letOwnedTupleGo tg (.ref it) u) Q E s := by
  unfold letOwnedTupleGo
  cases tg <;> first
    | exact wpAny_pure hQ
    | (cases u <;> first
        | exact wpAny_pure hQ
        | (refine wpAny_bind (wpAny_load ho ?_)
           rw [hc, hd]
           show wpAny M A (if (["enumerate", "zip", "dict_itemiterator", "dict_reverseitemiterator", "odict_iterator", "itertools.zip_longest", "itertools.pairwise"].contains n && vs[0]? == some (rawInt _)) = true then _ else _) Q E s
           rw [if_neg (by intro h; rw [hn, Bool.false_and] at h; cases h)]
           exact wpAny_pure hQ))
def Itl (K : PySem.W.Frag) (a : Addr) : It :=
  ⟨fun i H => ∃ xs x, SqL K H a xs ∧ xs[i]? = some x, fun i H x H' => H' = H ∧ ∀ xs, SqL K H a xs → xs[i]? = some x, fun i H => ∃ xs, SqL K H a xs ∧ xs.length ≤ i⟩
def Itt (K : PySem.W.Frag) (a : Addr) : It :=
  ⟨fun i H => ∃ xs x, SqT K H a xs ∧ xs[i]? = some x, fun i H x H' => H' = H ∧ ∀ xs, SqT K H a xs → xs[i]? = some x, fun i H => ∃ xs, SqT K H a xs ∧ xs.length ≤ i⟩
def Itr (lo : Int) (n : Nat) : It := ⟨fun i _ => i < n, fun i H x H' => H' = H ∧ x = .int (lo + i), fun i _ => n ≤ i⟩
theorem turn_list {P : Program} {w : World} {K : PySem.W.Frag} {tg : Expr} (a it : Addr) : Turn P w K tg (Itl K a) [it] it (fun i h => h.IsListIter it a i) where
  mem := by simp
  obj := fun i h st b hb => by
    have e : b = it := by simpa using hb
    subst e
    obtain ⟨o, e, c, d⟩ := st
    exact ⟨o, e, fun v z => by rw [d] at z; cases z⟩
  keep := fun i h h' st k => st.at fun o e => k it (by simp) o e
  item := by
    intro X hP hw hK hc i pins s σ H E I hf st hg
    subst hP hw hK
    obtain ⟨xs, x, hq, hx⟩ := hg
    obtain ⟨its, rv, p, hz⟩ := I.list hq
    obtain ⟨u, hu, ru⟩ := rv.get hx
    obtain ⟨f0, f1, f2, f3, f4, f5⟩ := hf it (by simp)
    refine wpAny_pyNext_list_item st p.isList (x := u) (by simpa using hu) fun h' st' sb => ?_
    have I1 : Inv X pins σ H { s with heap := h' } := I.turned (t' := s.toks) (fun b o hb e => (sb.2 b hb).trans e) f0 f1 f3 f4 f5
    obtain ⟨o, e, c, d⟩ := id st'
    exact ⟨u, rfl, go_of (s := { s with heap := h' }) e c d (by decide) ⟨x, H, I1, ru, ⟨rfl, fun ys hy => by rw [I.list_inj hy hq]; exact hx⟩, st', fun b hb => (hf b hb).1⟩⟩
  done := by
    intro X hP hw hK hc i pins s σ H E I hf st hg
    subst hP hw hK
    obtain ⟨xs, hq, hx⟩ := hg
    obtain ⟨its, rv, p, hz⟩ := I.list hq
    obtain ⟨f0, f1, f2, f3, f4, f5⟩ := hf it (by simp)
    have hl := rv.length
    exact wpAny_pyNext_list_end (I.ok.hd hc) st p.isList (by simp; omega) fun h' eb => ⟨rfl, I.turned (t' := s.toks) (fun b o hb e => eb b o hb e) f0 f1 f3 f4 f5⟩
  self := fun _ _ _ _ _ st h => wpAny_pyIter_listiter st h
theorem turn_tuple {P : Program} {w : World} {K : PySem.W.Frag} {tg : Expr} (a it : Addr) : Turn P w K tg (Itt K a) [it] it (fun i h => h.IsTupleIter it a i) where
  mem := by simp
  obj := fun i h st b hb => by
    have e : b = it := by simpa using hb
    subst e
    obtain ⟨o, e, c, d⟩ := st
    exact ⟨o, e, fun v z => by rw [d] at z; cases z⟩
  keep := fun i h h' st k => st.at fun o e => k it (by simp) o e
  item := by
    intro X hP hw hK hc i pins s σ H E I hf st hg
    subst hP hw hK
    obtain ⟨xs, x, hq, hx⟩ := hg
    obtain ⟨its, rv, p, hz⟩ := I.tuple hq
    obtain ⟨u, hu, ru⟩ := rv.get hx
    obtain ⟨f0, f1, f2, f3, f4, f5⟩ := hf it (by simp)
    refine wpAny_pyNext_tuple_item st (show s.heap.IsTuple a its.toArray from p) (x := u) (by simpa using hu) fun h' st' sb => ?_
    have I1 : Inv X pins σ H { s with heap := h' } := I.turned (t' := s.toks) (fun b o hb e => (sb.2 b hb).trans e) f0 f1 f3 f4 f5
    obtain ⟨o, e, c, d⟩ := id st'
    exact ⟨u, rfl, go_of (s := { s with heap := h' }) e c d (by decide) ⟨x, H, I1, ru, ⟨rfl, fun ys hy => by rw [I.tuple_inj hy hq]; exact hx⟩, st', fun b hb => (hf b hb).1⟩⟩
  done := by
    intro X hP hw hK hc i pins s σ H E I hf st hg
    subst hP hw hK
    obtain ⟨xs, hq, hx⟩ := hg
    obtain ⟨its, rv, p, hz⟩ := I.tuple hq
    obtain ⟨f0, f1, f2, f3, f4, f5⟩ := hf it (by simp)
    have hl := rv.length
    exact wpAny_pyNext_tuple_end (I.ok.hd hc) st (show s.heap.IsTuple a its.toArray from p) (by simp; omega) fun h' eb => ⟨rfl, I.turned (t' := s.toks) (fun b o hb e => eb b o hb e) f0 f1 f3 f4 f5⟩
  self := fun _ _ _ _ _ st h => wpAny_pyIter_tupleiter st h
theorem turn_range {P : Program} {w : World} {K : PySem.W.Frag} {tg : Expr} (it : Addr) (lo : Int) (n : Nat) : Turn P w K tg (Itr lo n) [it] it (fun i h => IsRangeIter h it (lo + (i : Nat) * 1) ((n : Int) - (i : Nat)) 1) where
  mem := by simp
  obj := fun i h st b hb => by
    have e : b = it := by simpa using hb
    subst e
    exact ⟨_, st, fun v z => by
      have z' : Data.fields _ = Data.cell v := z
      cases z'⟩
  keep := fun i h h' st k => k it (by simp) _ st
  item := by
    intro X hP hw hK hc i pins s σ H E I hf st hg
    subst hP hw hK
    obtain ⟨f0, f1, f2, f3, f4, f5⟩ := hf it (by simp)
    have W := Walks.range (prog := X.prog) (w := X.w) (I.ok.hd hc) it lo 1 n
    refine W.item i s _ _ hg st fun v h' tk hv st' kk => ?_
    obtain ⟨t, rfl⟩ := hv
    have I1 : Inv X pins σ H { s with heap := h', toks := tk } := I.turned (fun b o hb e => kk b o (by simpa using hb) e) f0 f1 f3 f4 f5
    refine ⟨_, rfl, go_of (s := { s with heap := h', toks := tk }) (n := "range_iterator") st' rfl rfl (by decide) ⟨.int (lo + i), H, I1, ⟨t, ?_⟩, ⟨rfl, rfl⟩, st', fun b hb => (hf b hb).1⟩⟩
    rw [Int.mul_one]
  done := by
    intro X hP hw hK hc i pins s σ H E I hf st hg
    subst hP hw hK
    obtain ⟨f0, f1, f2, f3, f4, f5⟩ := hf it (by simp)
    exact wpAny_pyNext_range_end (I.ok.hd hc) st (by have : n ≤ i := hg; omega) fun h' eb => ⟨rfl, I.turned (t' := s.toks) (fun b o hb e => eb b o hb e) f0 f1 f3 f4 f5⟩
  self := fun _ _ _ _ _ st h => wpAny_pyIter_rangeiter st h
end L2
namespace L2
open PySem PySem.Spec PyProof.Rows
section
variable {X : Cx} {tg : Expr}
def iList (K : PySem.W.Frag) (tl : TE) : TI := fun σ H R => tl σ H fun x H1 => ∃ a, x = .ref a ∧ (∃ xs, SqL K H1 a xs) ∧ R (Itl K a) H1
theorem pi_list {l : Expr} {tl : TE} (hl : PE X l tl) : PI X tg l (iList X.K tl) := by
  intro pins s σ H R I h
  refine thn (hl pins s σ H _ I h) fun v s1 ⟨x, H1, I1, r1, q1⟩ => ?_
  obtain ⟨a, e, ⟨xs, hq⟩, q⟩ := q1
  subst e
  cases r1
  obtain ⟨its, rv, p, hz⟩ := I1.list hq
  refine wpAny_pyIter_list p.isList ?_
  refine ⟨s1.heap.objs.size, [s1.heap.objs.size], _, _, H1, rfl, I1.kept (t' := s1.toks) fun b o e => Heap.get?_push_of_some _ e, turn_list a _, ⟨_, Heap.get?_push_size _ rfl, rfl, rfl⟩, fun b hb => ?_, q⟩
  have e : b = s1.heap.objs.size := by simpa using hb
  subst e
  exact I1.fpOk (Nat.le_refl _) (I1.hok.fresh (Nat.le_refl _))
theorem range_it {pins : List (Addr × Obj)} {σ : St} {H : Hp} {s : Shared} {R : It → Hp → Prop} {E : Value → Shared → Prop} {lo hi : Int} {t u v : Tok} {tk : Nat} (I : Inv X pins σ H s) (h1 : -(2 ^ 62) ≤ lo) (h2 : lo < 2 ^ 62) (h3 : -(2 ^ 62) ≤ hi) (h4 : hi < 2 ^ 62)
    (q : R (Itr lo (hi - lo).toNat) H) : wpAny (model X.prog X.w) X.A (pyIter (.ref s.heap.objs.size)) (PIE X pins σ tg R) E { s with heap := s.heap.push { cls := .type "range", data := .fields #[.int lo t, .int hi u, .int 1 v] }, toks := tk } := by
  refine wpAny_pyIter_range (IsRange.new ..) (small_one h1 h2 h3 h4) ?_
  have I1 : Inv X pins σ H { s with heap := s.heap.push { cls := .type "range", data := .fields #[.int lo t, .int hi u, .int 1 v] }, toks := tk } := I.kept fun b o e => Heap.get?_push_of_some _ e
  refine ⟨(s.heap.push { cls := .type "range", data := .fields #[.int lo t, .int hi u, .int 1 v] }).objs.size, [(s.heap.push { cls := .type "range", data := .fields #[.int lo t, .int hi u, .int 1 v] }).objs.size], _, _, H, rfl,
    I1.kept (t' := tk) fun b o e => Heap.get?_push_of_some _ e, turn_range _ lo (hi - lo).toNat, ?_, fun b hb => ?_, q⟩
  · have e1 : lo + ((0 : Nat) : Int) * 1 = lo := by simp
    have e2 : (((hi - lo).toNat : Nat) : Int) - ((0 : Nat) : Int) = Builtin.Range.rangeSize lo hi 1 := by rw [rangeSize_one]; split <;> omega
    show IsRangeIter _ _ (lo + ((0 : Nat) : Int) * 1) ((((hi - lo).toNat : Nat) : Int) - ((0 : Nat) : Int)) 1
    rw [e1, e2]
    exact Heap.get?_push_size _ rfl
  · have e : b = (s.heap.push { cls := .type "range", data := .fields #[.int lo t, .int hi u, .int 1 v] }).objs.size := by simpa using hb
    subst e
    exact I1.fpOk (Nat.le_refl _) (I1.hok.fresh (Nat.le_refl _))
def iRng1 (ta : TA) : TI := fun σ H R => ta σ H fun vs H1 => ∃ j : Int, vs = [.int j] ∧ -(2 ^ 62) ≤ j ∧ j < 2 ^ 62 ∧ R (Itr 0 j.toNat) H1
theorem pi_range1 {a : Expr} {ta : TA} {p pos : Pos} (hg : Gl X "range") (hm : X.mg "range" = none) (ha : PA X [a] ta) (hs : autoParam (starEach [a] X.env = [(false, eval a X.env)]) u5._auto_1) : PI X tg (.Call (.Name "range" p) [a] [] pos) (iRng1 ta) := by
  intro pins s σ H R I h
  refine Call_ (ld_blt I hg hm boot_range (PyProof.Rows.callWith_type1 (thn (ha pos pins s σ H _ I h) fun us s1 ⟨vs, H1, I1, r1, q1⟩ => ?_) hs rfl))
  obtain ⟨j, e, q1, q2, q⟩ := q1
  subst e
  cases r1 with
  | cons r rr =>
    cases rr
    obtain ⟨t, rfl⟩ := r
    exact call_range_1 (range_it I1 (by omega) (by omega) q1 q2 (by simpa using q))
def tFor (wi : TI) (g : TG) (tb : TS) : TS := fun D σ H => wi σ H fun J H1 => ∃ W : Nat → Nat → St → Hp → Prop, (∃ m, W 0 m σ H1) ∧ ∀ i m σ H, W i m σ H →
  (J.stop i H ∧ D.nx σ H) ∨ (J.go i H ∧ ∃ N : St → Hp → Prop, (∀ σ' H', N σ' H' → ∃ m', m' < m ∧ W (i + 1) m' σ' H') ∧ ∀ x H', J.yld i H x H' → g x σ H' fun σ2 H2 => tb { D with nx := N, ct := N, bk := D.nx } σ2 H2)
def pinsAt (fp : List Addr) (h : Heap) : List (Addr × Obj) := fp.filterMap fun b => (h.get? b).map fun o => (b, o)
theorem mem_pinsAt {fp : List Addr} {h : Heap} {b : Addr} {o : Obj} (hb : b ∈ fp) (e : h.get? b = some o) : (b, o) ∈ pinsAt fp h := List.mem_filterMap.mpr ⟨b, hb, by rw [e]; rfl⟩
theorem of_pinsAt {fp : List Addr} {h : Heap} {p : Addr × Obj} (hp : p ∈ pinsAt fp h) : p.1 ∈ fp ∧ h.get? p.1 = some p.2 := by
  obtain ⟨b, hb, e⟩ := List.mem_filterMap.mp hp
  cases q : h.get? b with
  | none => rw [q] at e; cases e
  | some o =>
    rw [q] at e
    have e' : (b, o) = p := Option.some.inj e
    subst e'
    exact ⟨hb, q⟩
theorem Inv.pinned {pins : List (Addr × Obj)} {σ : St} {H : Hp} {s : Shared} {fp : List Addr} (I : Inv X pins σ H s) (hf : ∀ b ∈ fp, FpOk X pins H b) (ho : ∀ b ∈ fp, ∃ o, s.heap.get? b = some o ∧ ∀ v, o.data ≠ .cell v) : Inv X (pins ++ pinsAt fp s.heap) σ H s :=
  I.pins_of fun p hp => (List.mem_append.mp hp).elim (fun z => I.pin p (List.mem_append_right _ z)) fun z => by
    obtain ⟨hb, e⟩ := of_pinsAt z
    obtain ⟨f0, f1, f2, _⟩ := hf p.1 hb
    obtain ⟨o, e', d⟩ := ho p.1 hb
    rw [e] at e'; cases e'
    exact ⟨e, f0, f1, f2, d⟩
theorem Inv.unpinned {pins pl : List (Addr × Obj)} {σ : St} {H : Hp} {s : Shared} (I : Inv X (pins ++ pl) σ H s) : Inv X pins σ H s := I.pins_of fun p hp => I.pin p (List.mem_append_right _ (List.mem_append_left _ hp))
theorem ps_for {iter : Expr} {body : List Stmt} {wi : TI} {g : TG} {tb : TS} {pos : Pos} (hp : PassesOwn (model X.prog X.w) X.A X.env X.xe) (hc : X.calm = true) (hi : PI X tg iter wi) (hg : PG X tg g) (hb : PSs X body tb)
    (hs : autoParam (∀ x, foldedSetIterable iter X.env x = pure x) u4._auto_1) : PS X (.For tg iter body [] pos) (tFor wi g tb) := by
  intro pins s σ H D I h
  refine wpAny_For (thn (hi pins s σ H _ I h) fun v s1 h1 => thn h1 fun itv s2 h2 => ?_) hs
  obtain ⟨it, fp, tn, J, H2, e, I2, T, st2, f2, W, ⟨m0, w0⟩, turn⟩ := h2
  subst e
  have stat : ∀ {H' : Hp}, (∀ b ∈ fp, H' b = none) → ∀ b ∈ fp, FpOk X pins H' b := fun hn b hb => ⟨hn b hb, (f2 b hb).2⟩
  refine codeAny_forLoop_any (fun n s' => ∃ i σ' H', Inv X pins σ' H' s' ∧ tn i s'.heap ∧ (∀ b ∈ fp, H' b = none) ∧ W i n σ' H') ?_ m0 ⟨0, σ, H2, I2, st2, fun b hb => (f2 b hb).1, w0⟩
  rintro n s3 ⟨i, σ3, H3, I3, st3, fr3, w3⟩
  rcases turn i n σ3 H3 w3 with ⟨stop, qn⟩ | ⟨go, N, hN, step⟩
  · refine wpAny_passesOwn hp (thn (T.done X rfl rfl rfl hc i pins s3 σ3 H3 X.xe I3 (stat fr3) st3 stop) fun r s4 ⟨hr, I4⟩ => ?_)
    subst hr
    exact wpAny_execs_nil ⟨σ3, H3, I4, qn⟩
  · refine wpAny_passesOwn hp (thn (T.item X rfl rfl rfl hc i pins s3 σ3 H3 X.xe I3 (stat fr3) st3 go) fun r s4 ⟨u, hr, h4⟩ => ?_)
    subst hr
    refine wpAny_passesOwn hp (thn h4 fun _ s5 ⟨x, H5, I5, r5, y5, st5, fr5⟩ => ?_)
    have I5' := I5.pinned (stat fr5) (T.obj _ _ st5)
    refine wpAny_passesOwn hp (thn (hg _ s5 σ3 H5 x u _ I5' r5 (step x H5 y5)) fun _ s6 ⟨σ6, H6, I6, q6⟩ => ?_)
    refine wpAny_passesOwn hp (thn (hb _ s6 σ6 H6 _ I6 q6) fun f s7 q7 => ?_)
    have again : ∀ {σ7 : St} {H7 : Hp}, Inv X (pins ++ pinsAt fp s5.heap) σ7 H7 s7 → N σ7 H7 → ∃ m, m < n ∧ ∃ i σ' H', Inv X pins σ' H' s7 ∧ tn i s7.heap ∧ (∀ b ∈ fp, H' b = none) ∧ W i m σ' H' := fun {σ7 H7} I7 n7 => by
      obtain ⟨m', hm, w7⟩ := hN σ7 H7 n7
      refine ⟨m', hm, i + 1, σ7, H7, I7.unpinned, T.keep _ _ _ st5 fun b hb o e => (I7.pin (b, o) (List.mem_append_right _ (List.mem_append_right _ (mem_pinsAt hb e)))).1, fun b hb => ?_, w7⟩
      obtain ⟨o, e, d⟩ := T.obj _ _ st5 b hb
      exact (I7.pin (b, o) (List.mem_append_right _ (List.mem_append_right _ (mem_pinsAt hb e)))).2.1
    cases f with
    | next => obtain ⟨σ7, H7, I7, n7⟩ := q7; exact again I7 n7
    | cont => obtain ⟨σ7, H7, I7, n7⟩ := q7; exact again I7 n7
    | brk => obtain ⟨σ7, H7, I7, q7⟩ := q7; exact ⟨σ7, H7, I7.unpinned, q7⟩
    | ret v => obtain ⟨x7, σ7, H7, I7, r7, q7⟩ := q7; exact ⟨x7, σ7, H7, I7.unpinned, r7, q7⟩
end
theorem for_list {K : PySem.W.Frag} {a : Addr} {xs : List V} {g : TG} {tb : TS} {D : Ends} {σ : St} {H : Hp} (Pv : Nat → St → Hp → Prop) (h0 : Pv 0 σ H) (hl : ∀ i σ H, i ≤ xs.length → Pv i σ H → SqL K H a xs)
    (hs : ∀ i x σ H, xs[i]? = some x → Pv i σ H → g x σ H fun σ2 H2 => tb { D with nx := Pv (i + 1), ct := Pv (i + 1), bk := D.nx } σ2 H2) (hd : ∀ σ H, Pv xs.length σ H → D.nx σ H) :
    ∃ W : Nat → Nat → St → Hp → Prop, (∃ m, W 0 m σ H) ∧ ∀ i m σ H, W i m σ H →
      ((Itl K a).stop i H ∧ D.nx σ H) ∨ ((Itl K a).go i H ∧ ∃ N : St → Hp → Prop, (∀ σ' H', N σ' H' → ∃ m', m' < m ∧ W (i + 1) m' σ' H') ∧ ∀ x H', (Itl K a).yld i H x H' → g x σ H' fun σ2 H2 => tb { D with nx := N, ct := N, bk := D.nx } σ2 H2) := by
  refine ⟨fun i m σ H => m = xs.length - i ∧ i ≤ xs.length ∧ Pv i σ H, ⟨xs.length, by simp, Nat.zero_le _, h0⟩, ?_⟩
  rintro i m σ H ⟨rfl, hi, p⟩
  have q := hl i σ H hi p
  by_cases hlt : i < xs.length
  · refine .inr ⟨⟨xs, xs[i], q, by simp [hlt]⟩, Pv (i + 1), fun σ' H' p' => ⟨xs.length - (i + 1), by omega, rfl, hlt, p'⟩, fun x H' y => ?_⟩
    obtain ⟨e, y⟩ := y
    subst e
    exact hs i x σ _ (y xs q) p
  · have e : i = xs.length := by omega
    subst e
    exact .inl ⟨⟨xs, q, Nat.le_refl _⟩, hd σ H p⟩
theorem for_range {lo : Int} {n : Nat} {g : TG} {tb : TS} {D : Ends} {σ : St} {H : Hp} (Pv : Nat → St → Hp → Prop) (h0 : Pv 0 σ H)
    (hs : ∀ i σ H, i < n → Pv i σ H → g (.int (lo + i)) σ H fun σ2 H2 => tb { D with nx := Pv (i + 1), ct := Pv (i + 1), bk := D.nx } σ2 H2) (hd : ∀ σ H, Pv n σ H → D.nx σ H) :
    ∃ W : Nat → Nat → St → Hp → Prop, (∃ m, W 0 m σ H) ∧ ∀ i m σ H, W i m σ H →
      ((Itr lo n).stop i H ∧ D.nx σ H) ∨ ((Itr lo n).go i H ∧ ∃ N : St → Hp → Prop, (∀ σ' H', N σ' H' → ∃ m', m' < m ∧ W (i + 1) m' σ' H') ∧ ∀ x H', (Itr lo n).yld i H x H' → g x σ H' fun σ2 H2 => tb { D with nx := N, ct := N, bk := D.nx } σ2 H2) := by
  refine ⟨fun i m σ H => m = n - i ∧ i ≤ n ∧ Pv i σ H, ⟨n, by simp, Nat.zero_le _, h0⟩, ?_⟩
  rintro i m σ H ⟨rfl, hi, p⟩
  by_cases hlt : i < n
  · refine .inr ⟨hlt, Pv (i + 1), fun σ' H' p' => ⟨n - (i + 1), by omega, rfl, hlt, p'⟩, fun x H' y => ?_⟩
    obtain ⟨e, y⟩ := y
    subst e y
    exact hs i σ _ hlt p
  · have e : i = n := by omega
    subst e
    exact .inl ⟨Nat.le_refl _, hd σ H p⟩
end L2
namespace L2
open PySem PySem.Spec PyProof.Rows
abbrev R2 := V → V → Hp → VK → Prop
def OpR (X : Cx) (f : Value → Value → Sem Value) (r : R2) : Prop :=
  ∀ (pins : List (Addr × Obj)) (s : Shared) (σ : St) (H : Hp) (x y : V) (v u : Value) (Q : VK), Inv X pins σ H s → RelV x v → RelV y u → r x y H Q →
    wpAny (model X.prog X.w) X.A (f v u) (EP X pins σ Q) X.xe s
def UnR (X : Cx) (f : Value → Sem Value) (r : V → Hp → VK → Prop) : Prop :=
  ∀ (pins : List (Addr × Obj)) (s : Shared) (σ : St) (H : Hp) (x : V) (v : Value) (Q : VK), Inv X pins σ H s → RelV x v → r x H Q →
    wpAny (model X.prog X.w) X.A (f v) (EP X pins σ Q) X.xe s
def CallR (X : Cx) (f : Value) (r : List V → Hp → VK → Prop) : Prop :=
  ∀ (pins : List (Addr × Obj)) (s : Shared) (σ : St) (H : Hp) (xs : List V) (us : List Value) (Q : VK), Inv X pins σ H s → Vals xs us → r xs H Q →
    wpAny (model X.prog X.w) X.A (call f us) (EP X pins σ Q) X.xe s
def tOp (r : R2) (ta tb : TE) : TE := fun σ H Q => ta σ H fun x H1 => tb σ H1 fun y H2 => r x y H2 Q
def tUn (r : V → Hp → VK → Prop) (ta : TE) : TE := fun σ H Q => ta σ H fun x H1 => r x H1 Q
def rI (C : Int → Int → Prop) (g : Int → Int → V) : R2 := fun x y H Q => ∃ i j, x = .int i ∧ y = .int j ∧ C i j ∧ Q (g i j) H
def rI0 (g : Int → Int → V) : R2 := fun x y H Q => ∃ i j, x = .int i ∧ y = .int j ∧ Q (g i j) H
def rU (g : Int → V) : V → Hp → VK → Prop := fun x H Q => ∃ i, x = .int i ∧ Q (g i) H
section
variable {X : Cx} {a b c : Expr} {ta tb tc : TE} {pos : Pos}
theorem binT (ha : PE X a ta) (hb : PE X b tb) {pins : List (Addr × Obj)} {s : Shared} {σ : St} {H : Hp} {R : V → V → Hp → Prop} (I : Inv X pins σ H s)
    (h : ta σ H fun x H1 => tb σ H1 fun y H2 => R x y H2) {Q : Value → Shared → Prop} {f : Value → Value → Sem Value}
    (hf : ∀ v u s2 x y H2, Inv X pins σ H2 s2 → RelV x v → RelV y u → R x y H2 → wpAny (model X.prog X.w) X.A (f v u) Q X.xe s2) :
    wpAny (model X.prog X.w) X.A (eval a X.env) (fun v s₁ => wpAny (model X.prog X.w) X.A (eval b X.env) (fun u s₂ => wpAny (model X.prog X.w) X.A (f v u) Q X.xe s₂) X.xe s₁) X.xe s := by
  refine thn (ha pins s σ H _ I h) fun v s1 ⟨x, H1, I1, r1, q1⟩ => ?_
  refine thn (hb pins s1 σ H1 _ I1 q1) fun u s2 ⟨y, H2, I2, r2, q2⟩ => ?_
  exact hf v u s2 x y H2 I2 r1 r2 q2
theorem pe_op {op : Operator} {r : R2} (ho : OpR X (binaryOp op) r) (ha : PE X a ta) (hb : PE X b tb) : PE X (.BinOp a op b pos) (tOp r ta tb) := by
  intro pins s σ H Q I h
  exact wpAny_BinOp (binT ha hb I h fun v u s2 x y H2 I2 rx ry q => ho pins s2 σ H2 x y v u Q I2 rx ry q)
theorem pe_un {op : UnaryOp} {r : V → Hp → VK → Prop} (ho : UnR X (unaryOp op) r) (ha : PE X a ta) : PE X (.UnaryOp op a pos) (tUn r ta) := by
  intro pins s σ H Q I h
  exact UnaryOp_ (thn (ha pins s σ H _ I h) fun v s1 ⟨x, H1, I1, r1, q1⟩ => ho pins s1 σ H1 x v Q I1 r1 q1)
theorem opI {f : Value → Value → Sem Value} {C : Int → Int → Prop} {g : Int → Int → Int}
    (rule : ∀ (i j : Int) (t u : Tok) (s : Shared) (Q : Value → Shared → Prop) (E : Value → Shared → Prop), C i j → Q (.int (g i j) s.toks) { s with toks := s.toks + 1 } → wpAny (model X.prog X.w) X.A (f (.int i t) (.int j u)) Q E s) :
    OpR X f (rI C fun i j => .int (g i j)) := by
  intro pins s σ H x y v u Q I rx ry h
  obtain ⟨i, j, rfl, rfl, hc, q⟩ := h
  obtain ⟨t, rfl⟩ := rx
  obtain ⟨t', rfl⟩ := ry
  exact rule i j t t' s _ _ hc ⟨.int (g i j), H, I.tok _, ⟨_, rfl⟩, q⟩
theorem opI0 {f : Value → Value → Sem Value} {g : Int → Int → Int}
    (rule : ∀ (i j : Int) (t u : Tok) (s : Shared) (Q : Value → Shared → Prop) (E : Value → Shared → Prop), Q (.int (g i j) s.toks) { s with toks := s.toks + 1 } → wpAny (model X.prog X.w) X.A (f (.int i t) (.int j u)) Q E s) :
    OpR X f (rI0 fun i j => .int (g i j)) := by
  intro pins s σ H x y v u Q I rx ry h
  obtain ⟨i, j, rfl, rfl, q⟩ := h
  obtain ⟨t, rfl⟩ := rx
  obtain ⟨t', rfl⟩ := ry
  exact rule i j t t' s _ _ ⟨.int (g i j), H, I.tok _, ⟨_, rfl⟩, q⟩
theorem opB0 {f : Value → Value → Sem Value} {g : Int → Int → Bool}
    (rule : ∀ (i j : Int) (t u : Tok) (s : Shared) (Q : Value → Shared → Prop) (E : Value → Shared → Prop), Q (.bool (g i j)) s → wpAny (model X.prog X.w) X.A (f (.int i t) (.int j u)) Q E s) :
    OpR X f (rI0 fun i j => .bl (g i j)) := by
  intro pins s σ H x y v u Q I rx ry h
  obtain ⟨i, j, rfl, rfl, q⟩ := h
  obtain ⟨t, rfl⟩ := rx
  obtain ⟨t', rfl⟩ := ry
  exact rule i j t t' s _ _ ⟨.bl (g i j), H, I, rfl, q⟩
def CDiv (i j : Int) : Prop := 0 < j ∧ j < 1073741824
def CPow (i j : Int) : Prop := 0 ≤ j ∧ j ≤ 1000000 ∧ i.natAbs < 2 ^ 64
def CMul (i j : Int) : Prop := (-(2 ^ 64) < i ∧ i < 2 ^ 64) ∨ (-(2 ^ 64) < j ∧ j < 2 ^ 64)
theorem CMul.ok {i j : Int} (h : CMul i j) : IntMulOk i j := by
  rcases h with ⟨h1, h2⟩ | ⟨h1, h2⟩
  · exact .of_left (intBits_le_64 h1 h2)
  · exact .of_right (intBits_le_64 h1 h2)
theorem op_add : OpR X (binaryOp .Add) (rI0 fun i j => .int (i + j)) := opI0 fun _ _ _ _ _ _ _ q => add_int q
theorem op_sub : OpR X (binaryOp .Sub) (rI0 fun i j => .int (i - j)) := opI0 fun _ _ _ _ _ _ _ q => sub_int q
theorem op_mul : OpR X (binaryOp .Mult) (rI CMul fun i j => .int (i * j)) := opI fun _ _ _ _ _ _ _ hc q => mul_int q hc.ok
theorem op_fdiv : OpR X (binaryOp .FloorDiv) (rI CDiv fun i j => .int (i / j)) := opI fun i j _ _ _ _ _ hc q => by
  have h1 : (0 : Int) < j := hc.1
  have h2 : j < 1073741824 := hc.2
  exact floordiv_int (by omega) (by rw [Int.fdiv_eq_ediv_of_nonneg i (by omega)]; exact q) (.inl (PyProof.noPylong_small (by omega)))
theorem op_mod : OpR X (binaryOp .Mod) (rI (fun _ j => 0 < j) fun i j => .int (i % j)) := opI fun i j _ _ _ _ _ hc q => by
  have h1 : (0 : Int) < j := hc
  exact mod_int' (by omega) (by rw [Int.fmod_eq_emod_of_nonneg i (by omega)]; exact q)
theorem op_pow : OpR X (binaryOp .Pow) (rI CPow fun i j => .int (i ^ j.toNat)) := opI fun _ _ _ _ _ _ _ hc q => pow_int_small hc.1 hc.2.1 hc.2.2 q
theorem unI {f : Value → Sem Value} {g : Int → Int}
    (rule : ∀ (i : Int) (t : Tok) (s : Shared) (Q : Value → Shared → Prop) (E : Value → Shared → Prop), Q (.int (g i) s.toks) { s with toks := s.toks + 1 } → wpAny (model X.prog X.w) X.A (f (.int i t)) Q E s) :
    UnR X f (rU fun i => .int (g i)) := by
  intro pins s σ H x v Q I rx h
  obtain ⟨i, rfl, q⟩ := h
  obtain ⟨t, rfl⟩ := rx
  exact rule i t s _ _ ⟨.int (g i), H, I.tok _, ⟨_, rfl⟩, q⟩
theorem un_neg : UnR X (unaryOp .USub) (rU fun i => .int (-i)) := unI fun _ _ _ _ _ q => neg_int q
end
def scal : V → V → Bool
  | .non, .non => true | .non, .int _ => true | .int _, .non => true | .non, .bl _ => true | .bl _, .non => true | .non, .str _ => true | .str _, .non => true
  | .int _, .int _ => true | .bl _, .bl _ => true | .str _, .str _ => true | .byt _, .byt _ => true
  | .int _, .str _ => true | .str _, .int _ => true | .bl _, .str _ => true | .str _, .bl _ => true
  | _, _ => false
def rEq : R2 := fun x y H Q => scal x y = true ∧ Q (.bl (decide (x = y))) H
def rNe : R2 := fun x y H Q => scal x y = true ∧ Q (.bl (!decide (x = y))) H
theorem dec_int {i j : Int} : decide (V.int i = V.int j) = (i == j) := by
  rw [Bool.eq_iff_iff]
  simp
theorem dec_bl {i j : Bool} : decide (V.bl i = V.bl j) = (i == j) := by
  rw [Bool.eq_iff_iff]
  simp
theorem dec_str {i j : Str} : decide (V.str i = V.str j) = (i == j) := by
  rw [Bool.eq_iff_iff]
  simp
theorem dec_byt {i j : Array UInt8} : decide (V.byt i = V.byt j) = (i.toList == j.toList) := by
  rw [Bool.eq_iff_iff]
  cases i
  cases j
  simp
section
variable {X : Cx} {a b c : Expr} {ta tb tc : TE} {pos : Pos}
theorem fin_bl {pins : List (Addr × Obj)} {σ : St} {H : Hp} {s : Shared} {Q : VK} {k k' : Bool} (I : Inv X pins σ H s) (q : Q (.bl k) H) (e : k = k') : EP X pins σ Q (.bool k') s := by
  subst e
  exact ⟨.bl k, H, I, rfl, q⟩
theorem op_eq : OpR X (compareOp .Eq) rEq := by
  intro pins s σ H x y v u Q I rx ry h
  obtain ⟨hs, q⟩ := h
  cases x with
  | non =>
    cases rx
    cases y with
    | non => cases ry; exact PySem.EqNone.eq_none_none (fin_bl I q (by simp))
    | bl j => cases ry; exact PySem.EqNone.eq_none_bool (fin_bl I q (by simp))
    | int j => obtain ⟨t', rfl⟩ := ry; exact PySem.EqNone.eq_none_int (fin_bl I q (by simp))
    | str j => obtain ⟨t', rfl⟩ := ry; exact PySem.EqNone.eq_none_str (fin_bl I q (by simp))
    | _ => exact absurd (show false = true from hs) Bool.false_ne_true
  | bl i =>
    cases rx
    cases y with
    | non => cases ry; exact PySem.EqNone.eq_bool_none (fin_bl I q (by simp))
    | bl j => cases ry; exact eq_bool (fin_bl I q dec_bl)
    | str j => obtain ⟨t', rfl⟩ := ry; exact PySem.EqMixed.eq_bool_str (fin_bl I q (by simp))
    | _ => exact absurd (show false = true from hs) Bool.false_ne_true
  | int i =>
    obtain ⟨t, rfl⟩ := rx
    cases y with
    | non => cases ry; exact PySem.EqNone.eq_int_none (fin_bl I q (by simp))
    | int j => obtain ⟨t', rfl⟩ := ry; exact eq_int (fin_bl I q dec_int)
    | str j => obtain ⟨t', rfl⟩ := ry; exact PySem.EqMixed.eq_int_str (fin_bl I q (by simp))
    | _ => exact absurd (show false = true from hs) Bool.false_ne_true
  | str i =>
    obtain ⟨t, rfl⟩ := rx
    cases y with
    | non => cases ry; exact PySem.EqNone.eq_str_none (fin_bl I q (by simp))
    | bl j => cases ry; exact PySem.EqMixed.eq_str_bool (fin_bl I q (by simp))
    | int j => obtain ⟨t', rfl⟩ := ry; exact PySem.EqMixed.eq_str_int (fin_bl I q (by simp))
    | str j => obtain ⟨t', rfl⟩ := ry; exact eq_str (fin_bl I q dec_str)
    | _ => exact absurd (show false = true from hs) Bool.false_ne_true
  | byt i =>
    obtain ⟨t, rfl⟩ := rx
    cases y with
    | byt j => obtain ⟨t', rfl⟩ := ry; exact PySem.W.eq_bytes (fin_bl I q dec_byt)
    | _ => exact absurd (show false = true from hs) Bool.false_ne_true
  | _ => cases y <;> exact absurd (show false = true from hs) Bool.false_ne_true
theorem op_ne : OpR X (compareOp .NotEq) rNe := by
  intro pins s σ H x y v u Q I rx ry h
  obtain ⟨hs, q⟩ := h
  cases x with
  | non =>
    cases rx
    cases y with
    | non => cases ry; exact PySem.EqNone.ne_none_none (fin_bl I q (by simp))
    | bl j => cases ry; exact PySem.EqNone.ne_none_bool (fin_bl I q (by simp))
    | int j => obtain ⟨t', rfl⟩ := ry; exact PySem.EqNone.ne_none_int (fin_bl I q (by simp))
    | str j => obtain ⟨t', rfl⟩ := ry; exact PySem.EqNone.ne_none_str (fin_bl I q (by simp))
    | _ => exact absurd (show false = true from hs) Bool.false_ne_true
  | bl i =>
    cases rx
    cases y with
    | non => cases ry; exact PySem.EqNone.ne_bool_none (fin_bl I q (by simp))
    | bl j => cases ry; exact ne_bool (fin_bl I q (congrArg not dec_bl))
    | str j => obtain ⟨t', rfl⟩ := ry; exact PySem.EqMixed.ne_bool_str (fin_bl I q (by simp))
    | _ => exact absurd (show false = true from hs) Bool.false_ne_true
  | int i =>
    obtain ⟨t, rfl⟩ := rx
    cases y with
    | non => cases ry; exact PySem.EqNone.ne_int_none (fin_bl I q (by simp))
    | int j => obtain ⟨t', rfl⟩ := ry; exact ne_int (fin_bl I q (congrArg not dec_int))
    | str j => obtain ⟨t', rfl⟩ := ry; exact PySem.EqMixed.ne_int_str (fin_bl I q (by simp))
    | _ => exact absurd (show false = true from hs) Bool.false_ne_true
  | str i =>
    obtain ⟨t, rfl⟩ := rx
    cases y with
    | non => cases ry; exact PySem.EqNone.ne_str_none (fin_bl I q (by simp))
    | bl j => cases ry; exact PySem.EqMixed.ne_str_bool (fin_bl I q (by simp))
    | int j => obtain ⟨t', rfl⟩ := ry; exact PySem.EqMixed.ne_str_int (fin_bl I q (by simp))
    | str j => obtain ⟨t', rfl⟩ := ry; exact ne_str (fin_bl I q (congrArg not dec_str))
    | _ => exact absurd (show false = true from hs) Bool.false_ne_true
  | byt i =>
    obtain ⟨t, rfl⟩ := rx
    cases y with
    | byt j => obtain ⟨t', rfl⟩ := ry; exact PySem.W.ne_bytes (fin_bl I q (congrArg not dec_byt))
    | _ => exact absurd (show false = true from hs) Bool.false_ne_true
  | _ => cases y <;> exact absurd (show false = true from hs) Bool.false_ne_true
theorem op_lt : OpR X (compareOp .Lt) (rI0 fun i j => .bl (decide (i < j))) := opB0 fun _ _ _ _ _ _ _ q => lt_int q
theorem op_le : OpR X (compareOp .LtE) (rI0 fun i j => .bl (decide (i ≤ j))) := opB0 fun _ _ _ _ _ _ _ q => le_int q
theorem op_gt : OpR X (compareOp .Gt) (rI0 fun i j => .bl (decide (j < i))) := opB0 fun _ _ _ _ _ _ _ q => gt_int q
theorem op_isN : OpR X (compareOp .Is) (fun x y H Q => y = .non ∧ Q (.bl (decide (x = .non))) H) := by
  intro pins s σ H x y v u Q I rx ry h
  obtain ⟨rfl, q⟩ := h
  cases ry
  refine is_none_gen (fin_bl I q ?_)
  cases x <;> first
    | (cases rx; rfl)
    | (obtain ⟨t, rfl⟩ := rx; rfl)
theorem op_notN : OpR X (compareOp .IsNot) (fun x y H Q => y = .non ∧ Q (.bl (!decide (x = .non))) H) := by
  intro pins s σ H x y v u Q I rx ry h
  obtain ⟨rfl, q⟩ := h
  cases ry
  refine isnot_none_gen (fin_bl I q ?_)
  cases x <;> first
    | (cases rx; rfl)
    | (obtain ⟨t, rfl⟩ := rx; rfl)
theorem nomark (b : Expr) {op : CmpOp} (h : autoParam (op ≠ .In) u2._auto_1) (h2 : autoParam (op ≠ .NotIn) u2._auto_1) : behindInMarks op b = false := by
  have e1 : (op == CmpOp.In) = false := by cases op <;> first | rfl | exact absurd rfl h
  have e2 : (op == CmpOp.NotIn) = false := by cases op <;> first | rfl | exact absurd rfl h2
  cases b <;> simp [behindInMarks, e1, e2]
theorem pe_cmpR {op : CmpOp} {r : R2} (ho : OpR X (compareOp op) r) (ha : PE X a ta) (hb : PE X b tb) (hm : behindInMarks op b = false) : PE X (.Compare a [op] [b] pos) (tOp r ta tb) := by
  intro pins s σ H Q I h
  exact wpAny_Compare1 (binT ha hb I h fun v u s2 x y H2 I2 rx ry q => ho pins s2 σ H2 x y v u Q I2 rx ry q) hm
def tTest (t : TE) : TT := fun σ H Q => t σ H fun x H' => ∃ k, x = .bl k ∧ Q k H'
theorem pt_cmpR {op : CmpOp} {r : R2} (ho : OpR X (compareOp op) r) (ha : PE X a ta) (hb : PE X b tb) (hm : behindInMarks op b = false) : PT X (.Compare a [op] [b] pos) (tTest (tOp r ta tb)) := by
  intro pins s σ H Q I h
  refine wpAny_isTrue_Compare1 (thn (ha pins s σ H _ I h) fun v s1 ⟨x, H1, I1, r1, q1⟩ => thn (hb pins s1 σ H1 _ I1 q1) fun u s2 ⟨y, H2, I2, r2, q2⟩ =>
    thn (ho pins s2 σ H2 x y v u _ I2 r1 r2 q2) fun c s3 ⟨z, H3, I3, r3, k, e, q3⟩ => ?_) hm
  subst e
  cases r3
  exact wpAny_truthy_bool ⟨H3, I3, q3⟩
def tChain (r r' : R2) (ta tb tc : TE) : TE := fun σ H Q => ta σ H fun x H1 => tb σ H1 fun y H2 => r x y H2 fun z H3 => ∃ k, z = .bl k ∧
  (if k = true then tc σ H3 fun w' H4 => r' y w' H4 Q else Q (.bl false) H3)
theorem pe_chain {op op' : CmpOp} {r r' : R2} (ho : OpR X (compareOp op) r) (ho' : OpR X (compareOp op') r') (ha : PE X a ta) (hb : PE X b tb) (hc : PE X c tc)
    (hm : autoParam (lastMarks [op, op'] [b, c] = false) u6._auto_1) : PE X (.Compare a [op, op'] [b, c] pos) (tChain r r' ta tb tc) := by
  intro pins s σ H Q I h
  refine Compare_chain (thn (ha pins s σ H _ I h) fun v s1 ⟨x, H1, I1, r1, q1⟩ => chain_link (thn (hb pins s1 σ H1 _ I1 q1) fun u s2 ⟨y, H2, I2, r2, q2⟩ =>
    thn (ho pins s2 σ H2 x y v u _ I2 r1 r2 q2) fun d s3 ⟨z, H3, I3, r3, k, e, q3⟩ => ?_)) hm
  subst e
  cases r3
  refine wpAny_truthy_bool ?_
  cases k with
  | false => exact ite_ff ⟨.bl false, H3, I3, rfl, q3⟩
  | true => exact ite_tt (chain_last (thn (hc pins s3 σ H3 _ I3 q3) fun w' s4 ⟨z', H4, I4, r4, q4⟩ => ho' pins s4 σ H4 y z' u w' Q I4 r2 r4 q4))
theorem pt_chain {op op' : CmpOp} {r r' : R2} (ho : OpR X (compareOp op) r) (ho' : OpR X (compareOp op') r') (ha : PE X a ta) (hb : PE X b tb) (hc : PE X c tc)
    (hm : autoParam (lastMarks [op, op'] [b, c] = false) u6._auto_1) : PT X (.Compare a [op, op'] [b, c] pos) (tTest (tChain r r' ta tb tc)) := by
  intro pins s σ H Q I h
  refine isTrue_chain (thn (ha pins s σ H _ I h) fun v s1 ⟨x, H1, I1, r1, q1⟩ => test_link (thn (hb pins s1 σ H1 _ I1 q1) fun u s2 ⟨y, H2, I2, r2, q2⟩ =>
    thn (ho pins s2 σ H2 x y v u _ I2 r1 r2 q2) fun d s3 ⟨z, H3, I3, r3, k, e, q3⟩ => ?_)) hm
  subst e
  cases r3
  refine wpAny_truthy_bool ?_
  cases k with
  | false =>
    obtain ⟨k', e', q'⟩ := q3
    cases e'
    exact ite_ff ⟨H3, I3, q'⟩
  | true =>
    refine ite_tt (test_last (thn (hc pins s3 σ H3 _ I3 q3) fun w' s4 ⟨z', H4, I4, r4, q4⟩ => thn (ho' pins s4 σ H4 y z' u w' _ I4 r2 r4 q4) fun d' s5 ⟨z2, H5, I5, r5, k2, e2, q5⟩ => ?_))
    subst e2
    cases r5
    exact wpAny_truthy_bool ⟨H5, I5, q5⟩
theorem line63 : (sizeLine : Nat) < 2 ^ 63 := by rw [sizeLine_eq]; decide
theorem vals1 {x : V} {us : List Value} (r : Vals [x] us) : ∃ u, us = [u] ∧ RelV x u := by
  cases r with
  | cons r1 r2 => cases r2; exact ⟨_, rfl, r1⟩
theorem vals2 {x y : V} {us : List Value} (r : Vals [x, y] us) : ∃ u w', us = [u, w'] ∧ RelV x u ∧ RelV y w' := by
  cases r with
  | cons r1 r2 =>
    cases r2 with
    | cons r3 r4 => cases r4; exact ⟨_, _, rfl, r1, r3⟩
theorem call_int1 : CallR X (.type "int") (fun xs H Q => (∃ i, xs = [.int i] ∧ Q (.int i) H) ∨ ∃ k, xs = [.bl k] ∧ Q (.int (if k then 1 else 0)) H) := by
  intro pins s σ H xs us Q I r h
  rcases h with ⟨i, rfl, q⟩ | ⟨k, rfl, q⟩
  · obtain ⟨u, rfl, t, rfl⟩ := vals1 r
    exact call_int_int ⟨.int i, H, I, ⟨_, rfl⟩, q⟩
  · obtain ⟨u, rfl, r1⟩ := vals1 r
    cases r1
    exact call_int_bool ⟨.int (if k then 1 else 0), H, I.tok _, ⟨_, rfl⟩, q⟩
end
end L2
namespace L2
open PySem PySem.Spec PyProof.Rows
section
variable {prog : Program} {w : World} {A : Around} {E : Value → Shared → Prop} {s : Shared} {K : PySem.W.Frag} {x dx C f : Addr} {mA : Str → Option Value} {name : Str} {v : Value}
end
theorem RelO.some_of {v : V} {o : Option Value} (r : RelO (some v) o) : ∃ u, o = some u ∧ RelV v u := by
  cases o with
  | none => exact (show False from r).elim
  | some u => exact ⟨u, rfl, r⟩
section
variable {P : Program} {w : World} {H H' : Hp} {h h' : Heap} {a C dx : Addr} {fs fs' : List (Str × V)}
end
section
variable {X : Cx} {pins : List (Addr × Obj)} {σ : St} {H : Hp} {s : Shared} {a C dx : Addr} {fs : List (Str × V)} {f : Str} {v : V} {A : Around} {E : Value → Shared → Prop}
end
section
variable {X : Cx} {o e value : Expr} {f : Str} {pos pos' tpos : Pos} {ta tv : TE}
end
section
variable {X : Cx} {pins : List (Addr × Obj)} {σ : St} {H : Hp} {s : Shared} {A : Around} {E : Value → Shared → Prop} {Q : Value → Shared → Prop} {c : Value} {b : Bool}
end
end L2
namespace L2
open PySem PySem.Spec PyProof.Rows
structure Room (k : Nat) (A : Around) : Prop where
  hd : A.handled = none
  dp : A.depth + 3 * k + 5 < recursionLimit
  un : A.units + 16 * k + 200 < cLine
theorem Room.mono {j k : Nat} {A : Around} (r : Room k A) (h : j ≤ k) : Room j A := ⟨r.hd, by have := r.dp; omega, by have := r.un; omega⟩
theorem Room.deeper {k : Nat} {A : Around} (r : Room (k + 1) A) (env : Env) : Room k (A.deeper env) :=
  ⟨r.hd, by have := r.dp; show A.depth + 1 + 3 * k + 5 < _; omega, by have := r.un; show A.units + 3 + 16 * k + 200 < _; omega⟩
theorem Room.depth {k : Nat} {A : Around} (r : Room k A) : A.depth < recursionLimit := by have := r.dp; omega
def tNil : TA := fun _ H Q => Q [] H
def tCons (ta : TE) (tr : TA) : TA := fun σ H Q => ta σ H fun x H1 => tr σ H1 fun xs H2 => Q (x :: xs) H2
section
variable {X : Cx} {e : Expr} {es : List Expr} {te : TE} {t : TA} {pos : Pos}
theorem pa_nil : PA X [] tNil := fun _ _ _ _ H Q I h => Calls.spliced_nil ⟨[], H, I, .nil, h⟩
theorem pa_cons (ha : PE X e te) (hr : PA X es t) (hs : autoParam (starEach (e :: es) X.env = (false, eval e X.env) :: starEach es X.env) u5._auto_1) : PA X (e :: es) (tCons te t) := by
  intro pos pins s σ H Q I h
  rw [hs]
  show wpAny _ _ (spliced ((false, eval e X.env) :: backTo pos (starEach es X.env))) _ _ s
  refine Calls.spliced_cons (thn (ha pins s σ H _ I h) fun u s1 ⟨x, H1, I1, r1, q1⟩ => ?_)
  exact thn (hr pos pins s1 σ H1 _ I1 q1) fun us s2 ⟨xs, H2, I2, r2, q2⟩ => ⟨x :: xs, H2, I2, .cons r1 r2, q2⟩
def tTup (t : TA) : TE := fun σ H Q => t σ H fun xs H1 => xs.length ≤ sizeLine ∧ ∀ p, H1 p = none → Q (.ref p) (upd H1 p (.tup xs))
def tLst (t : TA) : TE := fun σ H Q => t σ H fun xs H1 => xs.length ≤ sizeLine ∧ ∀ p, H1 p = none → Q (.ref p) (upd H1 p (.lst xs))
theorem pe_tup {x1} (h : PA X es t) : PE X (.Tuple es x1 pos) (tTup t) := by
  intro pins s σ H Q I hq
  refine wpAny_Tuple_spliced (thn (h pos pins s σ H _ I hq) fun us s1 ⟨xs, H1, I1, r, z, q⟩ => ⟨by rw [← r.length]; exact z, ?_⟩)
  have hf : H1 s1.heap.objs.size = none := I1.hok.fresh (Nat.le_refl _)
  refine ⟨.ref s1.heap.objs.size, upd H1 s1.heap.objs.size (.tup xs), I1.laid (t' := s1.toks) (fun b u e => Heap.get?_push_of_some _ e) (Nat.le_refl _) ?_, rfl, q _ hf⟩
  exact ⟨z, us, r, ⟨_, Heap.get?_push_size _ rfl, rfl, _, rfl⟩⟩
theorem pe_lst (h : PA X es t) : PE X (.List es pos) (tLst t) := by
  intro pins s σ H Q I hq
  refine wpAny_List_spliced (thn (h pos pins s σ H _ I hq) fun us s1 ⟨xs, H1, I1, r, z, q⟩ => ⟨by rw [← r.length]; exact z, ?_⟩)
  have hf : H1 s1.heap.objs.size = none := I1.hok.fresh (Nat.le_refl _)
  refine ⟨.ref s1.heap.objs.size, upd H1 s1.heap.objs.size (.lst xs), I1.laid (t' := s1.toks) (fun b u e => Heap.get?_push_of_some _ e) (Nat.le_refl _) ?_, rfl, q _ hf⟩
  exact ⟨z, us, 0, r, Heap.get?_push_size _ rfl⟩
end
abbrev Sp := List V → Hp → VK → XK → Prop
abbrev CXT := List Env → Hp → Shared → XK → Value → Shared → Prop
structure Env0 (P : Program) (w : World) (K : PySem.W.Frag) (mg : Str → Option Value) (base : Heap) (A : Around) (outer : List Env) (s : Shared) (H : Hp) : Prop where
  frames : A.frames = some outer
  mod : Mod K mg base
  bs : ∀ b o, base.get? b = some o → s.heap.get? b = some o ∧ H b = none
  bsz : base.objs.size ≤ s.heap.objs.size
  funs : s.heap.FunFrames base outer
  frf : ∀ b ∈ frs outer, H b = none
  hok : HOk P w H s.heap
  bare : AllBare s.gens
def CE (outer : List Env) (P : Program) (w : World) (H : Hp) (s : Shared) (Q : VK) (u : Value) (s' : Shared) : Prop :=
  ∃ v H', s'.os = s.os ∧ AllBare s'.gens ∧ Un (frs outer) [] H H' s.heap s'.heap ∧ HOk P w H' s'.heap ∧ RelV v u ∧ Q v H'
def CR (CX : CXT) (outer : List Env) (P : Program) (w : World) (H : Hp) (s : Shared) (Q : VK) (E : XK) (r : Result) (s' : Shared) : Prop :=
  match r with
  | .ok (.ret u) => CE outer P w H s Q u s'
  | .ok _ => False
  | .error e => CX outer H s E e s'
structure FnOk (P : Program) (w : World) (K : PySem.W.Frag) (mg : Str → Option Value) (base : Heap) (CX : CXT) (k : Nat) (f : Addr) (fd : FuncData) (ps : List Str) (sp : Sp) : Prop where
  len : ∀ vs H Q E, sp vs H Q E → vs.length = ps.length
  run : ∀ (A : Around) (outer : List Env) (s : Shared) (H : Hp) (args : Args) (us : List Value) (vs : List V) (Q : VK) (E : XK), Room k A → Env0 P w K mg base A outer s H → BindsTo s fd args (ps.zip us) → Vals vs us → sp vs H Q E →
    codeAny (model P w) A (.call (.ref f) args) (CR CX outer P w H s Q E) s
theorem FnOk.imp {P : Program} {w : World} {K : PySem.W.Frag} {mg : Str → Option Value} {base : Heap} {CX : CXT} {k : Nat} {f : Addr} {fd : FuncData} {ps : List Str} {sp sp' : Sp} (F : FnOk P w K mg base CX k f fd ps sp)
    (h : ∀ vs H Q E, sp' vs H Q E → sp vs H Q E) : FnOk P w K mg base CX k f fd ps sp' :=
  ⟨fun vs H Q E q => F.len vs H Q E (h _ _ _ _ q), fun A outer s H args us vs Q E hr he hb hv hs => F.run A outer s H args us vs Q E hr he hb hv (h _ _ _ _ hs)⟩
theorem Env0.in1 {P : Program} {w : World} {K : PySem.W.Frag} {mg : Str → Option Value} {base : Heap} {A : Around} {outer : List Env} {s : Shared} {H : Hp} (e : Env0 P w K mg base A outer s H) :
    Env0 P w K mg base A.in1 outer s H := ⟨e.frames, e.mod, e.bs, e.bsz, e.funs, e.frf, e.hok, e.bare⟩
section
variable {X : Cx} {pins : List (Addr × Obj)} {σ : St} {H : Hp} {s s' : Shared}
theorem Inv.env0 (I : Inv X pins σ H s) : Env0 X.prog X.w X.K X.mg X.base X.A X.stack s H :=
  ⟨I.ok.frames, I.ok.mod, I.bs, Nat.le_trans I.ok.bsz I.sz, I.stack, I.stkFree, I.hok, I.bare⟩
theorem Inv.after {Q : VK} {u : Value} (I : Inv X pins σ H s) (h : CE X.stack X.prog X.w H s Q u s') : EP X pins σ Q u s' := by
  obtain ⟨v, H', os, bare, un, hok, r, q⟩ := h
  obtain ⟨hh, g, d, t, os'⟩ := s'
  obtain rfl : os' = s.os := os
  exact ⟨v, H', I.call (h' := hh) (g' := g) (d' := d) (t' := t) (ch := []) un hok bare (fun b z => absurd z (by simp)), r, q⟩
end
def tCall (sp : Sp) (dvs : List V) (E : XK) (t : TA) : TE := fun σ H Q => t σ H fun vs H1 => sp (vs ++ dvs) H1 Q E
def Binds (K : PySem.W.Frag) (fd : FuncData) (ps : List Str) (ds : List Value) : Prop :=
  ∀ (s : Shared) (us : List Value), K.In s.heap → (us ++ ds).length = ps.length → BindsTo s fd ⟨us, []⟩ (ps.zip (us ++ ds))
theorem Binds.all {K : PySem.W.Frag} {fd : FuncData} {ps : List Str} (h : ∀ us : List Value, us.length = ps.length → bindArgs fd ⟨us, []⟩ = pure (ps.zip us)) : Binds K fd ps [] := fun s us _ hl => by
  rw [List.append_nil] at hl ⊢
  exact .of_eq (h us hl)
def Passes (CX : CXT) (X : Cx) (E : XK) : Prop := ∀ (pins : List (Addr × Obj)) (σ : St) (H : Hp) (s : Shared) (e : Value) (s' : Shared), Inv X pins σ H s → CX X.stack H s E e s' → X.xe e s'
section
variable {X : Cx} {CX : CXT} {k : Nat} {f C : Addr} {fd : FuncData} {ps : List Str} {sp : Sp} {dvs : List V} {ds : List Value} {E : XK} {x m : Str} {p pos apos : Pos} {e o : Expr} {es : List Expr} {ta : TE} {t : TA}
theorem run_fn {pins : List (Addr × Obj)} {σ : St} {H : Hp} {s : Shared} {Q : VK} {us : List Value} {vs : List V} (F : FnOk X.prog X.w X.K X.mg X.base CX k f fd ps sp) (hr : Room k X.A) (hb : Binds X.K fd ps ds) (hd : Vals dvs ds) (hx : Passes CX X E)
    (I : Inv X pins σ H s) (r : Vals vs us) (h : sp (vs ++ dvs) H Q E) : wpAny (model X.prog X.w) X.A (call (.ref f) us) (EP X pins σ Q) X.xe s := by
  have r2 : Vals (vs ++ dvs) (us ++ ds) := r.append hd
  have hl : (us ++ ds).length = ps.length := by rw [← r2.length]; exact F.len _ _ _ _ h
  refine wpAny_call (codeAny_mono (F.run X.A X.stack s H ⟨us, []⟩ (us ++ ds) (vs ++ dvs) Q E hr I.env0 (hb s us I.kIn hl) r2 h) fun r s' hq => ?_)
  cases r with
  | error e => exact hx pins σ H s e s' I hq
  | ok fl =>
    cases fl with
    | ret u => exact I.after hq
    | next => exact False.elim hq
    | brk => exact False.elim hq
    | cont => exact False.elim hq
theorem pe_call (F : FnOk X.prog X.w X.K X.mg X.base CX k f fd ps sp) (hr : Room k X.A) (hg : Gl X x) (hm : X.mg x = some (.ref f)) (hk : PySem.W.keepIn X.K (.ref f) = true) (hb : Binds X.K fd ps ds) (hd : Vals dvs ds) (hx : Passes CX X E)
    (ha : PA X (e :: es) t) (hdb : autoParam ((x == ("__debug__" : Str)) = false) u2._auto_1) (he : autoParam (starEach (e :: es) X.env = (false, eval e X.env) :: starEach es X.env) u5._auto_1) (hpl : autoParam ((backTo pos (starEach es X.env)).any (·.1) = false) u5._auto_1) :
    PE X (.Call (.Name x p) (e :: es) [] pos) (tCall sp dvs E t) := by
  intro pins s σ H Q I h
  refine wpAny_Call_Name_kw (ld_glob I hg hm ?_ hdb)
  refine PySem.W.callWith_K (h₀ := X.base) I.ok.mod.kin hk (thn (ha pos pins s σ H _ I h) fun us s1 ⟨vs, H1, I1, r, q⟩ => ⟨I1.kIn, ?_⟩) he hpl
  exact run_fn F hr hb hd hx I1 r q
end
section
variable {X : Cx} {CX : CXT} {k : Nat} {f C : Addr} {fd : FuncData} {ps ks : List Str} {sp : Sp} {E : XK} {x m : Str} {p pos apos kpos : Pos} {e o : Expr} {es : List Expr} {kws : List Keyword} {te ta : TE} {t tk : TA} {nm : Option Str}
variable {g : List Value → List Value → List Value} {gV : List V → List V → List V}
end
structure FnScope (N P : List Str) (sc : Scope) : Prop where
  kind : sc.kind = .function
  co : sc.isCoroutine = false
  gen : sc.isGenerator = false
  nd : N.Nodup
  pre : N.take P.length = P
  par : ∀ x ∈ P, sc.names.lookup x = some .local ∨ sc.names.lookup x = some .cell
  nofree : ∀ y ∈ sc.names, y.2 ≠ .free
theorem bindL_out {kindOf : Str → Option NameKind} {x : Str} : ∀ {binds : List (Str × Value)} {m : Str → Option Value}, (∀ v, (x, v) ∉ binds) → bindL kindOf binds m x = m x
  | [], _, _ => rfl
  | (n, v) :: r, m, h => by
    unfold bindL
    rw [bindL_out fun w hw => h w (List.mem_cons_of_mem _ hw)]
    split
    · have : x ≠ n := by rintro rfl; exact h v List.mem_cons_self
      simp [this]
    · rfl
theorem bindC_out {kindOf : Str → Option NameKind} {x : Str} : ∀ {binds : List (Str × Value)} {m : Str → Option Value}, (∀ v, (x, v) ∉ binds) → bindC kindOf binds m x = m x
  | [], _, _ => rfl
  | (n, v) :: r, m, h => by
    unfold bindC
    rw [bindC_out fun w hw => h w (List.mem_cons_of_mem _ hw)]
    split
    · rfl
    · have : x ≠ n := by rintro rfl; exact h v List.mem_cons_self
      simp [this]
theorem bindL_get {kindOf : Str → Option NameKind} {x : Str} {v : Value} : ∀ {P : List Str} {vs : List Value} {i : Nat} {m : Str → Option Value}, P.Nodup → P[i]? = some x → vs[i]? = some v → kindOf x = some .local →
    bindL kindOf (P.zip vs) m x = some v
  | [], _, _, _, _, h, _, _ => by simp at h
  | _ :: _, [], _, _, _, _, h, _ => by simp at h
  | p :: P, w :: vs, 0, m, nd, h1, h2, hk => by
    simp at h1 h2; subst h1; subst h2
    show bindL kindOf ((p, w) :: P.zip vs) m p = _
    unfold bindL
    rw [bindL_out fun v hv => (List.nodup_cons.mp nd).1 (List.of_mem_zip hv).1, if_pos hk]
    simp
  | p :: P, w :: vs, i + 1, m, nd, h1, h2, hk => by
    show bindL kindOf ((p, w) :: P.zip vs) m x = _
    unfold bindL
    exact bindL_get (i := i) (List.nodup_cons.mp nd).2 (by simpa using h1) (by simpa using h2) hk
theorem bindC_get {kindOf : Str → Option NameKind} {x : Str} {v : Value} : ∀ {P : List Str} {vs : List Value} {i : Nat} {m : Str → Option Value}, P.Nodup → P[i]? = some x → vs[i]? = some v → kindOf x ≠ some .local →
    bindC kindOf (P.zip vs) m x = some v
  | [], _, _, _, _, h, _, _ => by simp at h
  | _ :: _, [], _, _, _, _, h, _ => by simp at h
  | p :: P, w :: vs, 0, m, nd, h1, h2, hk => by
    simp at h1 h2; subst h1; subst h2
    show bindC kindOf ((p, w) :: P.zip vs) m p = _
    unfold bindC
    rw [bindC_out fun v hv => (List.nodup_cons.mp nd).1 (List.of_mem_zip hv).1, if_neg hk]
    simp
  | p :: P, w :: vs, i + 1, m, nd, h1, h2, hk => by
    show bindC kindOf ((p, w) :: P.zip vs) m x = _
    unfold bindC
    exact bindC_get (i := i) (List.nodup_cons.mp nd).2 (by simpa using h1) (by simpa using h2) hk
def start (N : List Str) (vs : List V) : St := vs.map some ++ List.replicate (N.length - vs.length) none
def cxOf (CX : CXT) (P : Program) (w : World) (K : PySem.W.Frag) (mg : Str → Option Value) (base : Heap) (N : List Str) (qual : Str) (scope : Scope) (f : Addr) (cd : Value) (A : Around) (outer : List Env) (s : Shared) (H : Hp) (E : XK) : Cx where
  prog := P
  w := w
  K := K
  mg := mg
  base := base
  A := A.deeper (envOfC qual scope s.heap.objs.size f cd)
  N := N
  s₀ := s
  H₀ := H
  env := envOfC qual scope s.heap.objs.size f cd
  outer := outer
  stack := envOfC qual scope s.heap.objs.size f cd :: outer
  ex := []
  calm := true
  fn := fun _ => true
  pn := []
  xe := fun e s' => wpAny (model P w) (A.deeper (envOfC qual scope s.heap.objs.size f cd)) (leaving (envOfC qual scope s.heap.objs.size f cd) e) (fun _ s'' => CX outer H s E e s'') (fun e' s'' => CX outer H s E e' s'') s'
theorem cell_has {sc : Scope} {n : Nat} {x : Str} (h : sc.names.lookup x = some .cell) : ∃ c, (cellsFrom n sc.names []).lookup x = some c := by
  have q := PySem.W.cellsFrom_some sc.names n [] (.inl h)
  exact Option.isSome_iff_exists.mp q
theorem inv_start {CX : CXT} {P : Program} {w : World} {K : PySem.W.Frag} {mg : Str → Option Value} {base : Heap} {N ps : List Str} {qual : Str} {scope : Scope} {f : Addr} {cd : Value} {A : Around} {outer : List Env} {s s1 : Shared} {H : Hp} {E : XK} {us : List Value} {vs : List V}
    (S : FnScope N ps scope) (hd : A.handled = none) (e0 : Env0 P w K mg base A outer s H) (hl : vs.length = ps.length) (r : Vals vs us)
    (x : InCallC s s.heap.objs.size (bindL (envOfC qual scope s.heap.objs.size f cd).kindOf (ps.zip us) fun _ => none) (cellsFrom (s.heap.objs.size + 1) scope.names []) (bindC (envOfC qual scope s.heap.objs.size f cd).kindOf (ps.zip us) fun _ => none) s1) :
    Inv (cxOf CX P w K mg base N qual scope f cd A outer s H E) [] (start N vs) H s1 := by
  have hpl : ps.length ≤ N.length := by have := congrArg List.length S.pre; rw [List.length_take] at this; omega
  obtain ⟨h1, tk, rfl, hk⟩ := x.done
  have noA : ∀ b : Addr, b ∉ (cxOf CX P w K mg base N qual scope f cd A outer s H E).ex := fun b z => absurd (show b ∈ ([] : List Addr) from z) (by simp)
  refine ⟨⟨e0.mod, S.kind, rfl, rfl, Nat.le_refl _, fun y z c h1 h2 => ?_, fun y hy => ?_, fun y c _ h => ?_, fun _ => hd, Around.frames_deeper e0.frames, .inr ⟨rfl, rfl⟩, fun b z => absurd z (noA b), e0.bs, e0.bsz, fun b _ _ => noA b, fun b z => absurd z (noA b), e0.funs, e0.frf⟩,
    rfl, e0.bare, Un.kept hk, ⟨_, x.toInCall.ns, fun i y v h1 h2 h3 => ?_⟩, fun y c h => ⟨_, x.cell y c h⟩, e0.hok.fresh (Nat.le_refl _), fun y c h => ?_, fun p hp => absurd (show p ∈ ([] : List (Addr × Obj)) from hp) (by simp), e0.hok.kept hk, ?_⟩
  · exact name_of_addr x.apart (PySem.mem_of_lookup h1) (PySem.mem_of_lookup h2)
  · have hy : scope.names.lookup y = some .cell ∨ scope.names.lookup y = some .free := hy
    rcases hy with hy | hy
    · exact cell_has hy
    · exact absurd rfl (S.nofree _ (PySem.mem_of_lookup hy))
  · exact Nat.le_of_lt (x.above y c (PySem.mem_of_lookup h))
  · have hi : i < vs.length := by
      unfold start at h2
      by_cases hi : i < vs.length
      · exact hi
      · rw [List.getElem?_append_right (by simpa using hi)] at h2
        rw [List.getElem?_replicate] at h2
        split at h2 <;> cases h2
    have ha : vs[i]? = some v := by
      unfold start at h2
      rw [List.getElem?_append_left (by simpa using hi), List.getElem?_map] at h2
      cases e : vs[i]? with
      | none => rw [e] at h2; cases h2
      | some a => rw [e] at h2; cases h2; rfl
    obtain ⟨u, hu, rv⟩ := r.get ha
    have hp : ps[i]? = some y := by
      rw [← S.pre, List.getElem?_take_of_lt (by omega)]; exact h1
    have ndP : ps.Nodup := by rw [← S.pre]; exact S.nd.sublist (List.take_sublist _ _)
    refine ⟨u, rv, ?_⟩
    rcases S.par y (List.mem_of_getElem? hp) with k | k
    · exact .inl ⟨k, bindL_get ndP hp hu k⟩
    · obtain ⟨c, e⟩ := cell_has (n := s.heap.objs.size + 1) k
      refine .inr ⟨.inl k, c, e, ?_⟩
      have q := x.cell y c e
      rw [bindC_get ndP hp hu (by show scope.names.lookup y ≠ _; rw [k]; decide)] at q
      exact q
  · exact e0.hok.fresh (Nat.le_of_lt (x.above y c (PySem.mem_of_lookup h)))
  · unfold start
    show _ = N.length
    rw [List.length_append, List.length_map, List.length_replicate]
    omega
theorem fn_of {CX : CXT} {P : Program} {w : World} {K : PySem.W.Frag} {mg : Str → Option Value} {base : Heap} {k : Nat} {f : Addr} {name qual : Str} {params : Arguments} {body : List Stmt} {scope : Scope} {dV kV doc pm cdv ct oc : Value} {an od : Option Addr}
    {osl : Array (Option Value)} {N ps : List Str} {sp : Sp} (lk : K.lookup f = some ⟨oc, od, .func (PySem.W.fnOf name qual params body scope dV kV doc pm an cdv ct), osl⟩) (hcd : PySem.W.codeIn K cdv qual = true) (S : FnScope N ps scope)
    (len : ∀ vs H Q E, sp vs H Q E → vs.length = ps.length)
    (hbody : ∀ (A : Around) (outer : List Env) (s : Shared) (H : Hp) (vs : List V) (Q : VK) (E : XK), Room k (A.deeper (envOfC qual scope s.heap.objs.size f cdv)) → sp vs H Q E →
      ∃ t, PSs (cxOf CX P w K mg base N qual scope f cdv A outer s H E) body t ∧ t { nx := fun _ H' => Q .non H', rt := Q } (start N vs) H) :
    FnOk P w K mg base CX (k + 1) f (PySem.W.fnOf name qual params body scope dV kV doc pm an cdv ct) ps sp := by
  refine ⟨len, fun A outer s H args us vs Q E hr e0 hb r hsp => ?_⟩
  have hl := len _ _ _ _ hsp
  have KX : K.In s.heap := e0.mod.kin.keeps fun b o e => (e0.bs b o e).1
  have lim : s.heap.NoLimit := e0.mod.nolimit.keeps fun b o e => (e0.bs b o e).1
  have hkind : ∀ y ∈ ps.zip us, scope.names.lookup y.1 = some .local ∨ (scope.names.lookup y.1 = some .cell ∧ ((cellsFrom (s.heap.objs.size + 1) scope.names []).lookup y.1).isSome = true) := fun ⟨n, v⟩ hy => by
    rcases S.par n (List.of_mem_zip hy).1 with q | q
    · exact .inl q
    · exact .inr ⟨q, PySem.W.cellsFrom_some _ _ _ (.inl q)⟩
  refine codeAny_call_function hr.depth (KX _ _ lk) rfl S.co S.gen rfl (PySem.W.codeRec_of KX hcd) (hb _ _ _ _ ?_)
  refine wpAny_newFunctionEnv_cells S.kind hkind fun env he s1 x => ?_
  subst he
  refine ⟨lim.keeps x.toInCall.keep, codeAny_func ?_⟩
  obtain ⟨t, ht, hq⟩ := hbody A outer s H vs Q E (hr.deeper _) hsp
  have I : Inv (cxOf CX P w K mg base N qual scope f cdv A outer s H E) [] (start N vs) H s1 := inv_start S hr.hd e0 hl r x
  refine wpAny_mono (ht [] s1 (start N vs) H _ I hq) (fun fl s' hs => ?_) fun e s' hs => hs
  have fin : ∀ {σ' : St} {H' : Hp} {v : V} {u : Value}, Inv (cxOf CX P w K mg base N qual scope f cdv A outer s H E) [] σ' H' s' → RelV v u → Q v H' → CE outer P w H s Q u s' :=
    fun {σ' H' v u} J rv q => ⟨v, H', J.os, J.bare, J.base, J.hok, rv, q⟩
  cases fl with
  | ret u =>
    obtain ⟨v, σ', H', J, rv, q⟩ := hs
    exact fin J rv q
  | next =>
    obtain ⟨σ', H', J, q⟩ := hs
    exact fin (v := V.non) (u := Value.none) J rfl q
  | brk =>
    obtain ⟨_, _, _, q⟩ := hs
    exact False.elim q
  | cont =>
    obtain ⟨_, _, _, q⟩ := hs
    exact False.elim q
end L2
namespace L2
open PySem PySem.Spec PyProof.Rows
section
variable {X : Cx} {x : Str} {p pos : Pos} {e : Expr} {es : List Expr} {t : TA} {id T : String} {r : List V → Hp → VK → Prop}
def tCB (r : List V → Hp → VK → Prop) (t : TA) : TE := fun σ H Q => t σ H fun vs H1 => r vs H1 Q
theorem pe_callB (hc : CallR X (.builtin id) r) (hg : Gl X x) (hm : X.mg x = none) (hv : bootBuiltins x = some (.builtin id)) (ha : PA X (e :: es) t) (hn : autoParam (x ≠ "__name__") u2._auto_1) (hdb : autoParam ((x == ("__debug__" : Str)) = false) u2._auto_1)
    (he : autoParam (starEach (e :: es) X.env = (false, eval e X.env) :: starEach es X.env) u5._auto_1) (hpl : autoParam ((backTo pos (starEach es X.env)).any (·.1) = false) u5._auto_1) : PE X (.Call (.Name x p) (e :: es) [] pos) (tCB r t) := by
  intro pins s σ H Q I h
  refine wpAny_Call_Name_kw (ld_blt I hg hm hv ?_ hn hdb)
  exact PyProof.Rows.callWith_builtin1 (thn (ha pos pins s σ H _ I h) fun us s1 ⟨vs, H1, I1, r1, q1⟩ => hc pins s1 σ H1 vs us Q I1 r1 q1) he hpl
theorem pe_callTy (hc : CallR X (.type T) r) (hg : Gl X x) (hm : X.mg x = none) (hv : bootBuiltins x = some (.type T)) (ha : PA X (e :: es) t) (hn : autoParam (x ≠ "__name__") u2._auto_1) (hdb : autoParam ((x == ("__debug__" : Str)) = false) u2._auto_1)
    (he : autoParam (starEach (e :: es) X.env = (false, eval e X.env) :: starEach es X.env) u5._auto_1) (hpl : autoParam ((backTo pos (starEach es X.env)).any (·.1) = false) u5._auto_1) : PE X (.Call (.Name x p) (e :: es) [] pos) (tCB r t) := by
  intro pins s σ H Q I h
  refine wpAny_Call_Name_kw (ld_blt I hg hm hv ?_ hn hdb)
  exact PyProof.Rows.callWith_type1 (thn (ha pos pins s σ H _ I h) fun us s1 ⟨vs, H1, I1, r1, q1⟩ => hc pins s1 σ H1 vs us Q I1 r1 q1) he hpl
end
end L2
namespace L2
open PySem PySem.Spec PyProof.Rows
section
variable {κ : Type} [DecidableEq κ]
def valV (kvs : List (κ × V)) (k : κ) : Option V := (kvs.find? fun kv => decide (kv.1 = k)).map (·.2)
def putK (kvs : List (κ × V)) (k : κ) (v : V) : List (κ × V) :=
  if (kvs.any fun kv => decide (kv.1 = k)) = true then kvs.map (fun kv => if kv.1 = k then (kv.1, v) else kv) else kvs ++ [(k, v)]
theorem valV_pos {p : κ × V} {r : List (κ × V)} {k : κ} (e : p.1 = k) : valV (p :: r) k = some p.2 := by simp [valV, List.find?_cons, e]
theorem valV_neg {p : κ × V} {r : List (κ × V)} {k : κ} (e : ¬ p.1 = k) : valV (p :: r) k = valV r k := by simp [valV, List.find?_cons, e]
theorem valV_any (k : κ) : ∀ kvs : List (κ × V), (kvs.any fun kv => decide (kv.1 = k)) = (valV kvs k).isSome
  | [] => rfl
  | p :: r => by
    rw [List.any_cons]
    by_cases e : p.1 = k
    · simp only [valV_pos e, decide_eq_true e, Bool.true_or, Option.isSome_some]
    · rw [valV_neg e, decide_eq_false e, Bool.false_or]; exact valV_any k r
theorem length_putK (kvs : List (κ × V)) (k : κ) (v : V) : (putK kvs k v).length ≤ kvs.length + 1 := by
  unfold putK
  split
  · rw [List.length_map]; omega
  · rw [List.length_append, List.length_cons, List.length_nil]; omega
theorem RelO.isSome_eq {o : Option V} {u : Option Value} (r : RelO o u) : o.isSome = u.isSome := by
  cases o with
  | none => cases u with
    | none => rfl
    | some _ => exact (show False from r).elim
  | some _ => cases u with
    | none => exact (show False from r).elim
    | some _ => rfl
theorem KV.val {kvs : List (κ × V)} {vs : List (κ × Value)} (r : KV kvs vs) (k : κ) : RelO (valV kvs k) (valueAt vs k) := by
  unfold KV at r
  induction r with
  | nil => exact True.intro
  | @cons p q ps qs h t ih =>
    obtain ⟨h1, h2⟩ := h
    by_cases e : p.1 = k
    · have e' : q.1 = k := h1.symm.trans e
      have b : valueAt (q :: qs) k = some q.2 := by simp [valueAt, List.find?_cons, e']
      rw [valV_pos e, b]; exact h2
    · have e' : ¬ q.1 = k := fun z => e (h1.trans z)
      have b : valueAt (q :: qs) k = valueAt qs k := by simp [valueAt, List.find?_cons, e']
      rw [valV_neg e, b]; exact ih
theorem KV.any {kvs : List (κ × V)} {vs : List (κ × Value)} (r : KV kvs vs) (k : κ) : (kvs.any fun kv => decide (kv.1 = k)) = vs.any fun kv => decide (kv.1 = k) := by
  unfold KV at r
  induction r with
  | nil => rfl
  | cons h t ih => rw [List.any_cons, List.any_cons, ih, h.1]
theorem KV.repl {kvs : List (κ × V)} {vs : List (κ × Value)} (r : KV kvs vs) (k : κ) {y : V} {u : Value} (ry : RelV y u) :
    KV (kvs.map fun kv => if kv.1 = k then (kv.1, y) else kv) (vs.map fun kv => if kv.1 = k then (kv.1, u) else kv) := by
  unfold KV at r ⊢
  induction r with
  | nil => exact .nil
  | @cons p q ps qs h t ih =>
    rw [List.map_cons, List.map_cons]
    refine .cons ?_ ih
    obtain ⟨h1, h2⟩ := h
    by_cases e : p.1 = k
    · rw [if_pos e, if_pos (h1.symm.trans e)]; exact ⟨h1, ry⟩
    · rw [if_neg e, if_neg (fun z => e (h1.trans z))]; exact ⟨h1, h2⟩
theorem KV.put {kvs : List (κ × V)} {vs : List (κ × Value)} (r : KV kvs vs) (k : κ) {y : V} {u : Value} (ry : RelV y u) : KV (putK kvs k y) (stored vs k u) := by
  unfold putK stored
  rw [r.any k]
  by_cases e : (vs.any fun kv => decide (kv.1 = k)) = true
  · rw [if_pos e, if_pos e]; exact r.repl k ry
  · rw [if_neg e, if_neg e]; exact Paired.snoc r ⟨rfl, ry⟩
theorem KV.length {kvs : List (κ × V)} {vs : List (κ × Value)} (r : KV kvs vs) : kvs.length = vs.length := Paired.length r
end
theorem kV_is {P : Program} {w : World} {k : Key} {u : Value} (r : RelV (kV k) u) : (mixKind P w).is k u = true := by
  cases k with
  | inl i => obtain ⟨t, e⟩ := (show ∃ t, u = Value.int i t from r); subst e; exact mixKind_int P w i t
  | inr x => obtain ⟨t, e⟩ := (show ∃ t, u = Value.str x t from r); subst e; exact mixKind_str P w x t
theorem items_are {P : Program} {w : World} : ∀ {ks : List Key} {us : List Value}, Vals (ks.map kV) us → ItemsAre (mixKind P w) ks us
  | [], _, r => by rw [List.map_nil] at r; cases r; exact .nil
  | k :: ks, _, r => by
    rw [List.map_cons] at r
    cases r with
    | cons h t => exact .cons (kV_is h) (items_are t)
abbrev KT (H : Hp) : List (List Key × V) → List (List Key × Addr × Value) → Prop := Paired fun p q => p.1 = q.1 ∧ H q.2.1 = some (.tup (p.1.map kV)) ∧ RelV p.2 q.2.2
theorem KT.val {H : Hp} {kvs : List (List Key × V)} {xs : List (List Key × Addr × Value)} (r : KT H kvs xs) (k : List Key) : RelO (valV kvs k) ((atKey xs k).map (·.2)) := by
  induction r with
  | nil => exact True.intro
  | @cons p q ps qs h t ih =>
    obtain ⟨h1, _, h2⟩ := h
    by_cases e : p.1 = k
    · have e' : q.1 = k := h1.symm.trans e
      have b : atKey (q :: qs) k = some q.2 := by simp [atKey, List.find?_cons, e']
      rw [valV_pos e, b]; exact h2
    · have e' : ¬ q.1 = k := fun z => e (h1.trans z)
      have b : atKey (q :: qs) k = atKey qs k := by simp [atKey, List.find?_cons, e']
      rw [valV_neg e, b]; exact ih
theorem KT.repl {H : Hp} {kvs : List (List Key × V)} {xs : List (List Key × Addr × Value)} (r : KT H kvs xs) (k : List Key) {y : V} {u : Value} (ry : RelV y u) :
    KT H (kvs.map fun kv => if kv.1 = k then (kv.1, y) else kv) (xs.map (putAt k u)) := by
  induction r with
  | nil => exact .nil
  | @cons p q ps qs h t ih =>
    rw [List.map_cons, List.map_cons]
    refine .cons ?_ ih
    obtain ⟨h1, h2, h3⟩ := h
    unfold putAt
    by_cases e : p.1 = k
    · rw [if_pos e, if_pos (h1.symm.trans e)]; exact ⟨h1, h2, ry⟩
    · rw [if_neg e, if_neg (fun z => e (h1.trans z))]; exact ⟨h1, h2, h3⟩
theorem KT.put {H : Hp} {kvs : List (List Key × V)} {xs : List (List Key × Addr × Value)} (r : KT H kvs xs) (k : List Key) {b : Addr} {y : V} {u : Value} (hb : H b = some (.tup (k.map kV))) (ry : RelV y u) :
    KT H (putK kvs k y) (storedH xs k b u) := by
  have e : (kvs.any fun kv => decide (kv.1 = k)) = (atKey xs k).isSome := by
    rw [valV_any, (r.val k).isSome_eq, Option.isSome_map]
  unfold putK storedH
  rw [e]
  by_cases q : (atKey xs k).isSome = true
  · rw [if_pos q, if_pos q]; exact r.repl k ry
  · rw [if_neg q, if_neg q]; exact Paired.snoc r ⟨rfl, hb, ry⟩
theorem KT.keeps {H H' : Hp} {kvs : List (List Key × V)} {xs : List (List Key × Addr × Value)} (r : KT H kvs xs) (ht : ∀ b ys, H b = some (.tup ys) → H' b = some (.tup ys)) : KT H' kvs xs :=
  Paired.mapP r fun _ _ z => ⟨z.1, ht _ _ z.2.1, z.2.2⟩
section
variable {P : Program} {w : World} {H : Hp} {h : Heap} {a : Addr}
theorem rd_of {u : HO} (ok : HOk P w H h) (e : Rd H a u) : ObjOk P w H h a u := e.ok ok
theorem dk_rd {kvs : List (Key × V)} (ok : HOk P w H h) (e : Rd H a (.dK kvs)) : kvs.length ≤ sizeLine ∧ (a == sysModules) = false ∧ ∃ vs, KV kvs vs ∧ h.DictOf (mixKind P w) a vs :=
  show ObjOk P w H h a (.dK kvs) from rd_of ok e
theorem dk_of {kvs : List (Key × V)} (ok : HOk P w H h) (e : H a = some (.dK kvs)) : kvs.length ≤ sizeLine ∧ (a == sysModules) = false ∧ ∃ vs, KV kvs vs ∧ h.DictOf (mixKind P w) a vs := dk_rd ok (.inl e)
theorem key_of {ks : List Key} (ok : HOk P w H h) (e : H a = some (.tup (ks.map kV))) : (tupleKind (mixKind P w)).is h ks a := by
  obtain ⟨_, its, r, o, h1, h2, n, h3⟩ := (show ObjOk P w H h a (.tup (ks.map kV)) from ok a _ e)
  exact ⟨o, its.toArray, n, h1, h2, h3, by simpa using items_are r⟩
theorem dt_rd {kvs : List (List Key × V)} (ok : HOk P w H h) (e : Rd H a (.dT kvs)) : kvs.length ≤ sizeLine ∧ (a == sysModules) = false ∧
    ∃ xs, KT H kvs xs ∧ h.DictOfH (tupleKind (mixKind P w)) a xs := by
  obtain ⟨z, y, xs, r, o, es, ep, h1, h2, h3, h4, h5⟩ := (show ObjOk P w H h a (.dT kvs) from rd_of ok e)
  refine ⟨z, y, xs, r, o, es, ep, h1, h2, h3, h4, fun x hx => ?_, h5⟩
  have all : ∀ {l : List (List Key × V)} {m : List (List Key × Addr × Value)}, KT H l m → ∀ x ∈ m, (tupleKind (mixKind P w)).is h x.1 x.2.1 := by
    intro l m q
    induction q with
    | nil => intro x hx; exact nomatch hx
    | @cons p q ps qs hq t ih =>
      intro x hx
      rcases List.mem_cons.mp hx with e | hx
      · subst e
        exact key_of ok (by rw [← hq.1]; exact hq.2.1)
      · exact ih x hx
  exact all r x hx
theorem dt_of {kvs : List (List Key × V)} (ok : HOk P w H h) (e : H a = some (.dT kvs)) : kvs.length ≤ sizeLine ∧ (a == sysModules) = false ∧
    ∃ xs, KT H kvs xs ∧ h.DictOfH (tupleKind (mixKind P w)) a xs := dt_rd ok (.inl e)
end
def DGet (H : Hp) (a : Addr) (y : V) (r : Option V) : Prop :=
  (∃ kvs k, Rd H a (.dK kvs) ∧ y = kV k ∧ r = valV kvs k) ∨ ∃ kvs k b, Rd H a (.dT kvs) ∧ y = .ref b ∧ H b = some (.tup (k.map kV)) ∧ r = valV kvs k
def DPut (H : Hp) (a : Addr) (y v : V) (H' : Hp) : Prop :=
  (∃ kvs k, H a = some (.dK kvs) ∧ y = kV k ∧ kvs.length < sizeLine ∧ H' = upd H a (.dK (putK kvs k v))) ∨
  ∃ kvs k b, H a = some (.dT kvs) ∧ y = .ref b ∧ H b = some (.tup (k.map kV)) ∧ kvs.length < sizeLine ∧ H' = upd H a (.dT (putK kvs k v))
theorem DGet.k {H : Hp} {a : Addr} {kvs : List (Key × V)} {k : Key} (e : H a = some (.dK kvs)) : DGet H a (kV k) (valV kvs k) := .inl ⟨kvs, k, .inl e, rfl, rfl⟩
theorem DPut.k {H : Hp} {a : Addr} {kvs : List (Key × V)} {k : Key} {v : V} (e : H a = some (.dK kvs)) (hl : kvs.length < sizeLine) : DPut H a (kV k) v (upd H a (.dK (putK kvs k v))) := .inl ⟨kvs, k, e, rfl, hl, rfl⟩
section
variable {X : Cx} {pins : List (Addr × Obj)} {σ : St} {H : Hp} {s : Shared} {a : Addr} {y v : V} {u r : Value} {o : Option V} {A : Around} {E : Value → Shared → Prop}
theorem Inv.big (I : Inv X pins σ H s) : sysModules < s.heap.objs.size := by
  have h : mainGlobals < s.heap.objs.size := (I.mod.glob.keeps I.bk).lt
  exact Nat.lt_trans (by decide) h
theorem d_getItem {Q : Value → Shared → Prop} (hu : A.units + 1 < cLine) (I : Inv X pins σ H s) (g : DGet H a y (some v)) (ry : RelV y u) (h : ∀ w' s', Inv X pins σ H s' → RelV v w' → Q w' s') :
    wpAny (model X.prog X.w) A (getItem (.ref a) u) Q E s := by
  rcases g with ⟨kvs, k, e, ey, l⟩ | ⟨kvs, k, b, e, ey, eb, l⟩
  · subst ey
    obtain ⟨z, hd, vs, rel, dd⟩ := dk_rd I.hok e
    obtain ⟨w', hw, rw'⟩ := RelO.some_of (v := v) (o := valueAt vs k) (by rw [l]; exact rel.val k)
    exact wpAny_getItem_of (kV_is ry) dd.mapOf hw (h w' _ (I.tok _) rw')
  · subst ey
    cases (show u = Value.ref b from ry)
    obtain ⟨z, hd, xs, rel, dd⟩ := dt_rd I.hok e
    obtain ⟨w', hw, rw'⟩ := RelO.some_of (v := v) (o := (atKey xs k).map (·.2)) (by rw [l]; exact rel.val k)
    obtain ⟨p, hp, hp2⟩ := Option.map_eq_some_iff.mp hw
    refine wpAny_getItem_heap (tupleKind_room_in1 hu) (key_of I.hok eb) dd hp ?_
    rw [hp2]
    exact h w' _ (I.tok _) rw'
theorem d_notIn {Q : Value → Shared → Prop} (hu : A.units + 1 < cLine) (I : Inv X pins σ H s) (g : DGet H a y o) (ry : RelV y u) (h : ∀ s', Inv X pins σ H s' → Q (.bool (!o.isSome)) s') :
    wpAny (model X.prog X.w) A (compareOp .NotIn u (.ref a)) Q E s := by
  rcases g with ⟨kvs, k, e, ey, l⟩ | ⟨kvs, k, b, e, ey, eb, l⟩
  · subst ey
    obtain ⟨z, hd, vs, rel, dd⟩ := dk_rd I.hok e
    refine wpAny_notIn_of (kV_is ry) hd dd.mapOf ?_
    rw [← (rel.val k).isSome_eq, ← l]
    exact h _ (I.tok _)
  · subst ey
    cases (show u = Value.ref b from ry)
    obtain ⟨z, hd, xs, rel, dd⟩ := dt_rd I.hok e
    refine wpAny_notIn_heap (tupleKind_room_in1 hu) (key_of I.hok eb) hd dd ?_
    have q := (rel.val k).isSome_eq
    rw [Option.isSome_map] at q
    rw [← q, ← l]
    exact h _ (I.tok _)
theorem d_write {h' : Heap} {t' : Nat} {ob : HO} (I : Inv X pins σ H s) (mu : Mut (H a)) (hs : Heap.SameBut a s.heap h') (he : ∃ q, h'.get? a = some q) (new : ObjOk X.prog X.w (upd H a ob) h' a ob) :
    Inv X pins σ (upd H a ob) { s with heap := h', toks := t' } :=
  I.write (x := a) (e := a) mu (.inl rfl) (fun b q hb z => (hs.2 b hb).trans z) he new
theorem dk_new {P : Program} {w : World} {H' : Hp} {h' : Heap} {kvs : List (Key × V)} {vs : List (Key × Value)} (z : kvs.length ≤ sizeLine) (hd : (a == sysModules) = false) (rel : KV kvs vs) (dd : h'.DictOf (mixKind P w) a vs) :
    ObjOk P w H' h' a (.dK kvs) := ⟨z, hd, vs, rel, dd⟩
theorem d_setItem {H' : Hp} {Q : Unit → Shared → Prop} (hu : A.units + 1 < cLine) (I : Inv X pins σ H s) (g : DPut H a y v H') (ry : RelV y u) (rv : RelV v r) (h : ∀ s', Inv X pins σ H' s' → Q () s') :
    wpAny (model X.prog X.w) A (setItem (.ref a) u r) Q E s := by
  rcases g with ⟨kvs, k, e, ey, l, eH⟩ | ⟨kvs, k, b, e, ey, eb, l, eH⟩
  · subst ey eH
    obtain ⟨z, hd, vs, rel, dd⟩ := dk_of I.hok e
    have hz : vs.length ≤ sizeLine := by rw [← rel.length]; exact z
    have hl : (putK kvs k v).length ≤ sizeLine := by have := length_putK kvs k v; omega
    refine wpAny_setItem_pairs (hsz := hz) (kV_is ry) dd fun h' dd' hs => h _ ?_
    have he : ∃ q, h'.get? a = some q := let ⟨q, _, _, hq, _⟩ := dd'; ⟨q, hq⟩
    exact d_write I (by rw [e]; exact True.intro) hs he (dk_new hl hd (rel.put k rv) dd')
  · subst ey eH
    cases (show u = Value.ref b from ry)
    obtain ⟨z, hd, xs, rel, dd⟩ := dt_of I.hok e
    have hz : xs.length ≤ sizeLine := by rw [← Paired.length rel]; exact z
    have hl : (putK kvs k v).length ≤ sizeLine := by have := length_putK kvs k v; omega
    refine wpAny_setItem_heap (hsz := hz) (tupleKind_room_in1 hu) (key_of I.hok eb) dd fun h' dd' hs => h _ ?_
    obtain ⟨q, es, ep, hq, h2, h3, h4, _, h5⟩ := dd'
    refine d_write I (by rw [e]; exact True.intro) hs ⟨q, hq⟩ ⟨hl, hd, _, (rel.put k eb rv).keeps fun c ys ec => ?_, q, es, ep, hq, h2, h3, h4, h5⟩
    rw [upd_ne (ne_of ec e (fun z => nomatch z))]
    exact ec
end
section
variable {X : Cx} {pins : List (Addr × Obj)} {σ : St} {H : Hp} {s : Shared} {a : Addr} {kvs : List (Key × V)} {k : Key} {u : Value} {A : Around} {E : Value → Shared → Prop}
end
def NoSl (i : Expr) : Prop := ∀ ov iv, subscripted i false ov iv = operate [ov, iv] (getItem ov iv)
theorem subD_of {prog : Program} {w : World} {A : Around} {E : Value → Shared → Prop} {s : Shared} {env : Env} {value slice : Expr} {pos : Pos} {T id : String} {Q : Value → Shared → Prop}
    (hl : typeLookup (.type T) "__getitem__" = pure (some (.builtin id))) (hs : NoSl slice)
    (h : wpAny (model prog w) A (eval value env) (fun o s₁ => wpAny (model prog w) A (eval slice env) (fun i s₂ => s₂.TypeIs o T ∧ wpAny (model prog w) A (getItem o i) Q E s₂) E s₁) E s) :
    wpAny (model prog w) A (eval (.Subscript value slice pos) env) Q E s := by
  refine Subscript_ (wpAny_mono h (fun o s₁ h₁ => wpAny_mono h₁ (fun i s₂ h₂ => ?_) fun _ _ x => x) fun _ _ x => x)
  obtain ⟨hT, h₂⟩ := h₂
  unfold subscriptTail
  refine wpAny_bind ?_
  rw [getitemInPython_of_ne hT.not_modules]
  refine wpAny_bind (wpAny_specialOf hT hl ?_)
  have fin : wpAny (model prog w) A (subscripted slice false o i) (fun r s₃ => wpAny (model prog w) A (letTemporaryGo value o r >>= fun _ => pure r) Q E s₃) E s₂ := by
    rw [hs o i]
    exact wpAny_operating (wpAny_mono h₂ (fun r s₃ h₃ => wpAny_bind (wpAny_letTemporaryGo (wpAny_pure h₃))) fun _ _ x => x)
  first
    | exact wpAny_pure (wpAny_bind fin)
    | exact wpAny_bind (wpAny_pure (wpAny_bind fin))
    | exact wpAny_bind fin
theorem dict_typeIs {X : Cx} {pins : List (Addr × Obj)} {σ : St} {H : Hp} {s : Shared} {a : Addr} {y : V} {o : Option V} (I : Inv X pins σ H s) (g : DGet H a y o) : s.TypeIs (.ref a) "dict" := by
  rcases g with ⟨kvs, k, e, _, _⟩ | ⟨kvs, k, b, e, _, _, _⟩
  · obtain ⟨_, _, vs, _, dd⟩ := dk_rd I.hok e
    exact dd.typeIs
  · obtain ⟨_, _, xs, _, dd⟩ := dt_rd I.hok e
    exact dd.typeIs
def tDGet (td ty : TE) : TE := fun σ H Q => td σ H fun x H1 => ty σ H1 fun y H2 => ∃ a v, x = .ref a ∧ DGet H2 a y (some v) ∧ Q v H2
def tDNotIn (ty td : TE) : TE := fun σ H Q => ty σ H fun y H1 => td σ H1 fun x H2 => ∃ a o, x = .ref a ∧ DGet H2 a y o ∧ Q (.bl (!o.isSome)) H2
def sDPut (td ty tv : TE) : TS := fun D σ H => tv σ H fun v H1 => td σ H1 fun x H2 => ty σ H2 fun y H3 => ∃ a H4, x = .ref a ∧ DPut H3 a y v H4 ∧ D.nx σ H4
section
variable {X : Cx} {o i e value : Expr} {pos pos' tpos : Pos} {td ty tv : TE}
theorem pe_dget (hu : X.A.units + 1 < cLine) (ho : PE X o td) (hi : PE X i ty) (hs : NoSl i) : PE X (.Subscript o i pos) (tDGet td ty) := by
  intro pins s σ H Q I h
  refine subD_of PySem.F.slot_dict_getitem.lookup hs (thn (ho pins s σ H _ I h) fun u s1 ⟨x, H1, I1, rx, q1⟩ => thn (hi pins s1 σ H1 _ I1 q1) fun iv s2 ⟨y, H2, I2, ry, a, v, ex, g, q2⟩ => ?_)
  subst ex
  obtain rfl : u = Value.ref a := rx
  exact ⟨dict_typeIs I2 g, d_getItem hu I2 g ry fun w' s3 I3 rw' => ⟨v, H2, I3, rw', q2⟩⟩
theorem pc_dnotin (hu : X.A.units + 1 < cLine) (hi : PE X i ty) (ho : PE X o td) : PC X .NotIn i o (tDNotIn ty td) := by
  intro pins s σ H Q I h
  refine thn (hi pins s σ H _ I h) fun iv s1 ⟨y, H1, I1, ry, q1⟩ => thn (ho pins s1 σ H1 _ I1 q1) fun u s2 ⟨x, H2, I2, rx, a, ov, ex, g, q2⟩ => ?_
  subst ex
  obtain rfl : u = Value.ref a := rx
  exact d_notIn hu I2 g ry fun s3 I3 => ⟨.bl (!ov.isSome), H2, I3, rfl, q2⟩
theorem ps_dput (hu : X.A.units + 1 < cLine) (ho : PE X o td) (hi : PE X i ty) (hv : PE X value tv) (hs : swapsWith value (some (.Subscript o i pos')) pos.line X.env = pure false) :
    PS X (.Assign [.Subscript o i pos'] value pos) (sDPut td ty tv) := by
  intro pins s σ H D I h
  refine wpAny_Assign_Subscript (thn (hv pins s σ H _ I h) fun r s1 ⟨v, H1, I1, rv, q1⟩ => thn (ho pins s1 σ H1 _ I1 q1) fun u s2 ⟨x, H2, I2, rx, q2⟩ => thn (hi pins s2 σ H2 _ I2 q2) fun iv s3 ⟨y, H3, I3, ry, a, H4, ex, g, q3⟩ => ?_) hs
  subst ex
  obtain rfl : u = Value.ref a := rx
  exact d_setItem hu I3 g ry rv fun s4 I4 => ⟨σ, H4, I4, q3⟩
end
theorem dk_empty {P : Program} {w : World} {H : Hp} (h : Heap) (hb : sysModules < h.objs.size) : ObjOk P w H (h.push { cls := .type "dict", data := .dict #[] }) h.objs.size (.dK []) :=
  ⟨Nat.zero_le _, beq_eq_false_iff_ne.mpr (Ne.symm (Nat.ne_of_lt hb)), [], .nil, Heap.DictOf.new h⟩
def tDNewK : TE := fun _ H Q => ∀ p, H p = none → Q (.ref p) (upd H p (.dK []))
section
variable {X : Cx} {pos : Pos}
theorem pe_dnewK : PE X (.Dict [] [] pos) tDNewK := fun pins s σ H Q I h =>
  wpAny_Dict_empty ⟨.ref s.heap.objs.size, _, I.laid (a := s.heap.objs.size) (o := .dK []) (t' := s.toks) (fun _ _ q => Heap.get?_push_of_some _ q) (Nat.le_refl _) (dk_empty s.heap I.big), rfl, h _ (I.hok.fresh (Nat.le_refl _))⟩
end
def tPairs : List (TE × TE) → St → Hp → (List (V × V) → Hp → Prop) → Prop
  | [], _, H, Q => Q [] H
  | (tk, tv) :: r, σ, H, Q => tk σ H fun x H1 => tv σ H1 fun y H2 => tPairs r σ H2 fun ps H3 => Q ((x, y) :: ps) H3
abbrev VV : List (V × V) → List (Value × Value) → Prop := Paired fun p q => RelV p.1 q.1 ∧ RelV p.2 q.2
def PPs (X : Cx) (pos : Pos) (keys : List (Option Expr)) (values : List Expr) (trs : List (TE × TE)) : Prop :=
  ∀ (pins : List (Addr × Obj)) (s : Shared) (σ : St) (H : Hp) (Q : List (V × V) → Hp → Prop), Inv X pins σ H s → tPairs trs σ H Q →
    wpAny (model X.prog X.w) X.A (evalPairs (pairTrees keys values X.env pos)) (fun vs s' => ∃ ps H', Inv X pins σ H' s' ∧ VV ps vs ∧ Q ps H') X.xe s
theorem pps_nil {X : Cx} {pos : Pos} : PPs X pos [] [] [] := fun pins s σ H Q I h => pairTrees_nil_walk ⟨[], H, I, .nil, h⟩
theorem pps_cons {X : Cx} {pos : Pos} {k v : Expr} {ks : List (Option Expr)} {vs : List Expr} {tk tv : TE} {trs : List (TE × TE)} (hk : PE X k tk) (hv : PE X v tv) (hr : PPs X pos ks vs trs) :
    PPs X pos (some k :: ks) (v :: vs) ((tk, tv) :: trs) := fun pins s σ H Q I h =>
  pairTrees_cons_walk (thn (hk pins s σ H _ I h) fun u s1 ⟨x, H1, I1, rx, q1⟩ => thn (hv pins s1 σ H1 _ I1 q1) fun w2 s2 ⟨y, H2, I2, ry, q2⟩ =>
    thn (hr pins s2 σ H2 _ I2 q2) fun ws s3 ⟨ps, H3, I3, rel, q3⟩ => ⟨(x, y) :: ps, H3, I3, .cons ⟨rx, ry⟩ rel, q3⟩)
def mergeK (kvs more : List (Key × V)) : List (Key × V) := more.foldl (fun acc kv => putK acc kv.1 kv.2) kvs
theorem KV.merge : ∀ {more : List (Key × V)} {rs : List (Key × Value)} {kvs : List (Key × V)} {vs : List (Key × Value)}, KV more rs → KV kvs vs → KV (mergeK kvs more) (merged vs rs) := by
  intro more rs kvs vs r
  unfold KV at r
  induction r generalizing kvs vs with
  | nil => intro q; exact q
  | @cons p q ps qs h t ih =>
    intro r0
    have e : KV (putK kvs p.1 p.2) (stored vs q.1 q.2) := by
      have := r0.put p.1 h.2
      rw [← h.1]; exact this
    exact ih e
theorem length_mergeK : ∀ (more kvs : List (Key × V)), (mergeK kvs more).length ≤ kvs.length + more.length
  | [], kvs => by show kvs.length ≤ kvs.length + 0; omega
  | p :: r, kvs => by
    have h1 := length_mergeK r (putK kvs p.1 p.2)
    have h2 := length_putK kvs p.1 p.2
    show (mergeK (putK kvs p.1 p.2) r).length ≤ _
    rw [List.length_cons]; omega
theorem carries_of {P : Program} {w : World} : ∀ {kvs : List (Key × V)} {ws : List (Value × Value)}, VV (kvs.map fun kv => (kV kv.1, kv.2)) ws → ∃ rs, Carries (mixKind P w) ws rs ∧ KV kvs rs
  | [], _, r => by rw [List.map_nil] at r; cases r; exact ⟨[], True.intro, .nil⟩
  | p :: kvs, _, r => by
    rw [List.map_cons] at r
    cases r with
    | @cons a b as bs h t =>
      obtain ⟨rs, c, q⟩ := carries_of (P := P) (w := w) t
      obtain ⟨b1, b2⟩ := b
      exact ⟨(p.1, b2) :: rs, ⟨kV_is h.1, rfl, c⟩, .cons ⟨rfl, h.2⟩ q⟩
def tDisp (trs : List (TE × TE)) : TE := fun σ H Q => ∀ p, H p = none → tPairs trs σ (upd H p (.dK [])) fun ps H2 => H2 p = some (.dK []) ∧ ∃ kvs : List (Key × V), ps = kvs.map (fun kv => (kV kv.1, kv.2)) ∧ kvs.length ≤ 15 ∧ Q (.ref p) (upd H2 p (.dK (mergeK [] kvs)))
theorem pe_disp {X : Cx} {pos : Pos} {keys : List (Option Expr)} {values : List Expr} {trs : List (TE × TE)} (h : PPs X pos keys values trs) (hall : keys.all (·.isSome) = true) (hl : keys.length = values.length) (h0 : keys ≠ [])
    (h15 : keys.length ≤ 15) : PE X (.Dict keys values pos) (tDisp trs) := by
  intro pins s σ H Q I q
  have hn := I.hok.fresh (Nat.le_refl s.heap.objs.size)
  have I1 := I.laid (a := s.heap.objs.size) (o := .dK []) (h' := s.heap.push { cls := .type "dict", data := .dict #[] }) (t' := s.toks) (fun _ _ q => Heap.get?_push_of_some _ q) (Nat.le_refl _) (dk_empty s.heap I.big)
  refine wpAny_Dict_walk (knd := mixKind X.prog X.w) hall hl h0 h15 (thn (h pins _ σ _ _ I1 (q _ hn)) fun ws s2 ⟨ps, H2, I2, rel, e, kvs, ep, lk, q2⟩ => ?_)
  subst ep
  obtain ⟨rs, c, rk⟩ := carries_of (P := X.prog) (w := X.w) rel
  obtain ⟨z, hd, vs0, r0, dd⟩ := dk_of I2.hok e
  cases r0
  refine ⟨rs, c, dd, fun h' dd' hs => ⟨.ref s.heap.objs.size, _, ?_, rfl, q2⟩⟩
  have hz : (mergeK [] kvs).length ≤ sizeLine := by
    have h1 := length_mergeK kvs []
    rw [List.length_nil] at h1
    rw [sizeLine_eq]; omega
  have he : ∃ q, h'.get? s.heap.objs.size = some q := let ⟨q, _, _, hq, _⟩ := dd'; ⟨q, hq⟩
  exact d_write I2 (by rw [e]; exact True.intro) hs he (dk_new hz hd (rk.merge .nil) dd')
section
variable {X : Cx} {pins : List (Addr × Obj)} {σ : St} {H : Hp} {s : Shared} {a : Addr} {y d : V} {u r : Value} {o : Option V} {A : Around} {E : Value → Shared → Prop}
end
section
variable {X : Cx} {o e f : Expr} {apos cpos : Pos} {td ty tx : TE}
end
section
variable {X : Cx} {pins : List (Addr × Obj)} {σ : St} {H : Hp} {s : Shared} {a : Addr} {kvs : List (Key × V)} {A : Around} {E : Value → Shared → Prop}
end
section
variable {X : Cx} {pins : List (Addr × Obj)} {σ : St} {H : Hp} {s : Shared} {a : Addr} {y : V} {u : Value} {A : Around} {E : Value → Shared → Prop}
end
end L2
namespace HT
open PySem PyProof.Rows
section
open PySem.SeqAt
open PySem.AutoSeq1 (wpAny_loadPart')
open PySem.MeetsSeq PySem.MeetsSeq2 PySem.MeetsSeq3
end
section
variable {prog : Program} {w : World} {A : Around} {E : Value → Shared → Prop} {s : Shared}
theorem cat_tup {t b : Addr} {vs ws : List Value} {Q : Value → Shared → Prop} (ht : IsTup s.heap t vs.toArray) (hb : IsTup s.heap b ws.toArray) (hv : vs ≠ [])
    (h1 : ws = [] → Q (.ref t) s) (h2 : ws ≠ [] → Q (.ref s.heap.objs.size) { s with heap := s.heap.push { cls := .type "tuple", data := .seq (vs ++ ws).toArray } })
    (hsz : vs.length + ws.length ≤ sizeLine) : wpAny (model prog w) A (binaryOp .Add (.ref t) (.ref b)) Q E s := by
  obtain ⟨⟨cls, dd, data, sl⟩, ho, hc, n, hd⟩ := id ht
  obtain ⟨⟨cls2, dd2, data2, sl2⟩, ho2, hc2, n2, hd2⟩ := id hb
  simp only at hc hd hc2 hd2
  subst hc hd hc2 hd2
  have e : vs.toArray ++ ws.toArray = (vs ++ ws).toArray := by simp
  by_cases hw : ws = []
  · exact concat_meets ⟨_, ho, rfl⟩ ⟨_, ho2, rfl⟩ noFill_tuple_add seq_tuple_add PySem.F.slot_tuple_add PySem.F.entry_tuple_add (PySem.F.args_tuple_add_2 _ _)
      (tuple_addW1 t b vs.toArray ws.toArray n n2 dd dd2 sl sl2 (by simpa using hv) (by simp [hw])) ⟨ho, ho2, h1 hw⟩
  · refine concat_meets ⟨_, ho, rfl⟩ ⟨_, ho2, rfl⟩ noFill_tuple_add seq_tuple_add PySem.F.slot_tuple_add PySem.F.entry_tuple_add (PySem.F.args_tuple_add_2 _ _)
      (tuple_addW2 t b vs.toArray ws.toArray n n2 dd dd2 sl sl2 (by simpa using hv) (by simpa using hw) (by rw [List.size_toArray, List.size_toArray]; exact hsz)) ⟨ho, ho2, ?_⟩
    rw [e]
    exact h2 hw
def sIx (n d : Nat) : Option Int → Nat
  | none => d
  | some v => if v < 0 then (v + (n : Int)).toNat else min v.toNat n
theorem sIx_none (n d : Nat) : sIx n d none = d := rfl
theorem sIx_nat (n d k : Nat) : sIx n d (some (k : Int)) = min k n := by
  show (if (k : Int) < 0 then ((k : Int) + (n : Int)).toNat else min (k : Int).toNat n) = min k n
  rw [if_neg (by omega), Int.toNat_natCast]
end
end HT
namespace L2
open PySem PySem.Spec PyProof.Rows
abbrev TO := St → Hp → (Option Int → Hp → Prop) → Prop
def PO (X : Cx) (e : Option Expr) (t : TO) : Prop :=
  ∀ (pins : List (Addr × Obj)) (s : Shared) (σ : St) (H : Hp) (Q : Option Int → Hp → Prop), Inv X pins σ H s → t σ H Q →
    wpAny (model X.prog X.w) X.A (evalPart e X.env) (fun u s' => ∃ o H', Inv X pins σ H' s' ∧ IsPart u o ∧ Q o H') X.xe s
def tNoPart : TO := fun _ H Q => Q none H
def tPart (t : TE) : TO := fun σ H Q => t σ H fun x H1 => ∃ i, x = .int i ∧ Q (some i) H1
theorem intsAre_of {ns : List Int} : ∀ {us : List Value}, Vals (ns.map V.int) us → IntsAre us ns := by
  induction ns with
  | nil => intro us r; rw [List.map_nil] at r; cases r; exact .nil
  | cons n ns ih =>
    intro us r
    rw [List.map_cons] at r
    cases r with
    | cons r1 r2 =>
      obtain ⟨t, e⟩ := r1
      subst e
      exact .cons n t (ih r2)
section
variable {X : Cx} {e : Expr} {te : TE} {lo hi : Option Expr} {tl th : TO} {pos p2 : Pos}
theorem po_none : PO X none tNoPart := by
  intro pins s σ H Q I h
  rw [evalPart_none]
  exact wpAny_pure ⟨none, H, I, .none, h⟩
theorem po_some (h : PE X e te) : PO X (some e) (tPart te) := by
  intro pins s σ H Q I hw
  rw [evalPart_some]
  refine thn (h pins s σ H _ I hw) fun u s1 ⟨x, H1, I1, r1, q1⟩ => ?_
  obtain ⟨i, rfl, q⟩ := q1
  obtain ⟨t, rfl⟩ := r1
  exact ⟨some i, H1, I1, .int i t, q⟩
def SlR (X : Cx) (r : V → Option Int → Option Int → Hp → VK → Prop) : Prop :=
  ∀ (pins : List (Addr × Obj)) (s : Shared) (σ : St) (H : Hp) (x : V) (v vl vu : Value) (lo hi : Option Int) (sl : Addr) (Q : VK), Inv X pins σ H s → RelV x v → s.heap.IsSliceOf sl vl vu .none → IsPart vl lo → IsPart vu hi → r x lo hi H Q →
    ∃ T id, typeLookup (.type T) "__getitem__" = pure (some (.builtin id)) ∧ s.TypeIs v T ∧ wpAny (model X.prog X.w) X.A (getItem v (.ref sl)) (EP X pins σ Q) X.xe s
def tSl (r : V → Option Int → Option Int → Hp → VK → Prop) (te : TE) (tl th : TO) : TE := fun σ H Q => te σ H fun x H1 => tl σ H1 fun l H2 => th σ H2 fun u H3 => r x l u H3 Q
theorem pe_slice {r : V → Option Int → Option Int → Hp → VK → Prop} (hr : SlR X r) (he : PE X e te) (hl : PO X lo tl) (hu : PO X hi th) : PE X (.Subscript e (.Slice lo hi none p2) pos) (tSl r te tl th) := by
  intro pins s σ H Q I h
  refine Subscript_ (thn (he pins s σ H _ I h) fun v s1 ⟨x, H1, I1, r1, q1⟩ => ?_)
  refine wpAny_Slice (thn (hl pins s1 σ H1 _ I1 q1) fun vl s2 ⟨l, H2, I2, pl, q2⟩ => thn (hu pins s2 σ H2 _ I2 q2) fun vu s3 ⟨u, H3, I3, pu, q3⟩ => ?_)
  rw [evalPart_none]
  refine wpAny_pure ?_
  have I4 : Inv X pins σ H3 { s3 with heap := s3.heap.push { cls := .type "slice", data := .fields #[vl, vu, .none] } } := I3.kept (t' := s3.toks) fun b ob q => Heap.get?_push_of_some _ q
  obtain ⟨T, id, hT, ht, hg⟩ := hr pins { s3 with heap := s3.heap.push { cls := .type "slice", data := .fields #[vl, vu, .none] } } σ H3 x v vl vu l u s3.heap.objs.size Q I4 r1 (Heap.IsSliceOf.new ..) pl pu q3
  show wpAny (model X.prog X.w) X.A (subscriptTail e (.Slice lo hi none p2) v (.ref s3.heap.objs.size)) (EP X pins σ Q) X.xe { s3 with heap := s3.heap.push { cls := .type "slice", data := .fields #[vl, vu, .none] } }
  exact tail_any (ops := [.ref s3.heap.objs.size, v]) ht hT hg (by with_unfolding_all rfl)
def cutV (xs : List V) (lo hi : Option Int) : List V := (xs.drop (HT.sIx xs.length 0 lo)).take (HT.sIx xs.length xs.length hi - HT.sIx xs.length 0 lo)
theorem cutV_length (xs : List V) (lo hi : Option Int) : (cutV xs lo hi).length ≤ xs.length := by
  unfold cutV
  rw [List.length_take, List.length_drop]
  omega
def rCatT (K : PySem.W.Frag) : R2 := fun x y H Q => ∃ a b xs ys, x = .ref a ∧ y = .ref b ∧ SqT K H a xs ∧ SqT K H b ys ∧ xs ≠ [] ∧ xs.length + ys.length ≤ sizeLine ∧
  (ys = [] → Q (.ref a) H) ∧ (ys ≠ [] → ∀ p, H p = none → Q (.ref p) (upd H p (.tup (xs ++ ys))))
theorem Vals.nil_iff {xs : List V} {us : List Value} (r : Vals xs us) : us = [] ↔ xs = [] := by
  cases r with
  | nil => simp
  | cons _ _ => simp
theorem op_catT : OpR X (binaryOp .Add) (rCatT X.K) := by
  intro pins s σ H x y v u Q I rx ry h
  obtain ⟨a, b, xs, ys, rfl, rfl, ha, hb, hx, hz, q1, q2⟩ := h
  cases rx
  cases ry
  obtain ⟨its, r1, p1, _⟩ := I.tuple ha
  obtain ⟨its2, r2, p2, _⟩ := I.tuple hb
  refine HT.cat_tup p1 p2 (fun z => hx (r1.nil_iff.mp z)) (fun z => ⟨.ref a, H, I, rfl, q1 (r2.nil_iff.mp z)⟩) (fun z => ?_) (by rw [← r1.length, ← r2.length]; exact hz)
  refine ⟨.ref s.heap.objs.size, _, I.laid (t' := s.toks) (o := .tup (xs ++ ys)) (fun b ob q => Heap.get?_push_of_some _ q) (Nat.le_refl _) ?_, rfl, q2 (fun w => z (r2.nil_iff.mpr w)) _ (I.hok.fresh (Nat.le_refl _))⟩
  exact ⟨by rw [List.length_append]; exact hz, _, r1.append r2, IsTup.new _ _⟩
end
end L2
namespace L2
open PySem PySem.Spec PyProof.Rows
def ixN (n : Nat) (i : Int) : Option Nat := if 0 ≤ i then (if i < n then some i.toNat else none) else if -(n : Int) ≤ i then some (i + n).toNat else none
def atI {α : Type} (xs : List α) (i : Int) : Option α := (ixN xs.length i).bind fun j => xs[j]?
theorem ixN_seq {n : Nat} {i : Int} {j : Nat} (h : ixN n i = some j) : seqIndex? i n = some j ∧ j < n ∧ -(n : Int) ≤ i ∧ i < n := by
  unfold ixN at h
  by_cases h0 : 0 ≤ i
  · rw [if_pos h0] at h
    by_cases h1 : i < n
    · rw [if_pos h1] at h
      have e : i.toNat = j := Option.some.inj h
      exact ⟨by rw [seqIndex_of h0 h1, e], by omega, by omega, h1⟩
    · rw [if_neg h1] at h; cases h
  · rw [if_neg h0] at h
    by_cases h1 : -(n : Int) ≤ i
    · rw [if_pos h1] at h
      have e : (i + n).toNat = j := Option.some.inj h
      exact ⟨by rw [seqIndex_neg (by omega) h1, e], by omega, h1, by omega⟩
    · rw [if_neg h1] at h; cases h
theorem atI_get {α : Type} {xs : List α} {i : Int} {v : α} (h : atI xs i = some v) : ∃ j, seqIndex? i xs.length = some j ∧ xs[j]? = some v ∧ j < xs.length ∧ -(xs.length : Int) ≤ i ∧ i < xs.length := by
  unfold atI at h
  cases e : ixN xs.length i with
  | none => rw [e] at h; cases h
  | some j =>
    rw [e] at h
    obtain ⟨h1, h2, h3, h4⟩ := ixN_seq e
    exact ⟨j, h1, h, h2, h3, h4⟩
theorem atI_nat {α : Type} {xs : List α} {j : Nat} {v : α} (h : xs[j]? = some v) : atI xs (j : Int) = some v := by
  have hj : j < xs.length := (List.getElem?_eq_some_iff.mp h).1
  have e : ixN xs.length (j : Int) = some j := by
    unfold ixN
    rw [if_pos (by omega), if_pos (by omega)]; simp
  unfold atI; rw [e]; exact h
theorem atI_last {α : Type} (xs : List α) (v : α) : atI (xs ++ [v]) (-1) = some v := by
  have hl : (xs ++ [v]).length = xs.length + 1 := by simp
  have e : ixN (xs ++ [v]).length (-1) = some xs.length := by
    unfold ixN
    rw [hl, if_neg (by decide), if_pos (by omega)]
    congr 1
    omega
  unfold atI
  rw [e]
  show (xs ++ [v])[xs.length]? = some v
  simp
def PlainIx (b : Expr) : Prop := ∀ o i, subscripted b false o i = operate [o, i] (getItem o i)
def IxR (X : Cx) (r : R2) : Prop :=
  ∀ (value slice : Expr) (pins : List (Addr × Obj)) (s : Shared) (σ : St) (H : Hp) (x y : V) (v u : Value) (Q : VK), Inv X pins σ H s → RelV x v → RelV y u → r x y H Q →
    subscripted slice false v u = operate [v, u] (getItem v u) → wpAny (model X.prog X.w) X.A (subscriptTail value slice v u) (EP X pins σ Q) X.xe s
def MtR (X : Cx) (id : String) (r : V → List V → Hp → VK → Prop) : Prop :=
  ∀ (pins : List (Addr × Obj)) (s : Shared) (σ : St) (H : Hp) (x : V) (xs : List V) (v : Value) (us : List Value) (Q : VK), Inv X pins σ H s → RelV x v → Vals xs us → r x xs H Q →
    wpAny (model X.prog X.w) X.A (call (.builtin id) (v :: us)) (EP X pins σ Q) X.xe s
section
variable {X : Cx} {a b : Expr} {ta tb : TE} {pos : Pos}
theorem IxR.or {r r' : R2} (h : IxR X r) (h' : IxR X r') : IxR X (fun x y H Q => r x y H Q ∨ r' x y H Q) := by
  intro value slice pins s σ H x y v u Q I rx ry q hs
  rcases q with q | q
  · exact h value slice pins s σ H x y v u Q I rx ry q hs
  · exact h' value slice pins s σ H x y v u Q I rx ry q hs
theorem pe_ix {r : R2} (hr : IxR X r) (ha : PE X a ta) (hb : PE X b tb) (hs : PlainIx b) : PE X (.Subscript a b pos) (tOp r ta tb) := by
  intro pins s σ H Q I h
  exact Subscript_ (binT ha hb I h fun v u s2 x y H2 I2 rx ry q => hr a b pins s2 σ H2 x y v u Q I2 rx ry q (hs _ _))
def rIxL (K : PySem.W.Frag) : R2 := fun x y H Q => ∃ p xs i v, x = .ref p ∧ y = .int i ∧ SqL K H p xs ∧ atI xs i = some v ∧ Q v H
def rIxT (K : PySem.W.Frag) : R2 := fun x y H Q => ∃ p xs i v, x = .ref p ∧ y = .int i ∧ SqT K H p xs ∧ atI xs i = some v ∧ Q v H
def rIxS : R2 := fun x y H Q => ∃ z i c, x = .str z ∧ y = .int i ∧ z.length ≤ sizeLine ∧ atI z.cps.toList i = some c ∧ Q (.str ⟨#[c]⟩) H
theorem ix_list : IxR X (rIxL X.K) := by
  intro value slice pins s σ H x y v u Q I rx ry h hs
  obtain ⟨p, xs, i, z, rfl, rfl, hq, he, q⟩ := h
  cases rx
  obtain ⟨t, rfl⟩ := ry
  obtain ⟨its, r, pl, hz⟩ := I.list hq
  obtain ⟨j, h1, h2, h3, h4, h5⟩ := atI_get he
  obtain ⟨w, ew, rw'⟩ := r.get h2
  have hl := r.length
  have hn := line63
  have fin : EP X pins σ Q w s := ⟨z, H, I, rw', q⟩
  by_cases h0 : 0 ≤ i
  · have hj : i.toNat = j := by
      rw [seqIndex_of h0 h5] at h1
      exact Option.some.inj h1
    exact item_listR pl.isList h0 (by omega) (by rw [hj]; simpa using ew) fin hs
  · have hj : (i + (its.toArray.size : Int)).toNat = j := by
      rw [seqIndex_neg (by omega) h4] at h1
      rw [List.size_toArray, ← hl]
      exact Option.some.inj h1
    exact subscriptTail_builtinR (x := w) pl.isList.typeIs slot_list_getitem.lookup
      (wpAny_getItem_list_neg (Q := fun r s' => r = w ∧ EP X pins σ Q r s') pl.isList (by omega) (by rw [List.size_toArray] <;> omega) (by omega) (by rw [hj]; simpa using ew) ⟨rfl, fin⟩) hs
theorem ix_tup : IxR X (rIxT X.K) := by
  intro value slice pins s σ H x y v u Q I rx ry h hs
  obtain ⟨p, xs, i, z, rfl, rfl, hq, he, q⟩ := h
  cases rx
  obtain ⟨t, rfl⟩ := ry
  obtain ⟨its, r, pl, hz⟩ := I.tuple hq
  obtain ⟨j, h1, h2, h3, h4, h5⟩ := atI_get he
  obtain ⟨w, ew, rw'⟩ := r.get h2
  have hl := r.length
  have hn := line63
  have fin : EP X pins σ Q w s := ⟨z, H, I, rw', q⟩
  exact subscriptTail_builtinR (x := w) pl.typeIs slot_tuple_getitem.lookup
    (getItem_tuple (j := j) (Q := fun r s' => r = w ∧ EP X pins σ Q r s') pl (by omega) (by omega) (by rw [List.size_toArray, ← hl]; exact h1) (by simpa using ew) ⟨rfl, fin⟩) hs
theorem ix_str : IxR X rIxS := by
  intro value slice pins s σ H x y v u Q I rx ry h hs
  obtain ⟨z, i, c, rfl, rfl, hz, he, q⟩ := h
  obtain ⟨t, rfl⟩ := rx
  obtain ⟨t', rfl⟩ := ry
  obtain ⟨j, h1, h2, h3, h4, h5⟩ := atI_get he
  have hl : z.cps.toList.length = z.length := by simp [Str.length]
  rw [hl] at h1 h4 h5
  have hn := line63
  exact tail_any (typeIs_str s z t) slot_str_getitem.lookup (getItem_str (c := c) (by
    have e1 : decide (i < -(2 ^ 63 : Int)) = false := decide_eq_false (by omega)
    have e2 : decide (i ≥ 2 ^ 63) = false := decide_eq_false (by omega)
    rw [e1, e2, Bool.or_false]) (by rw [h1]; simpa using h2) ⟨.str ⟨#[c]⟩, H, I.tok _, ⟨_, rfl⟩, q⟩) hs
def rIx (K : PySem.W.Frag) : R2 := fun x y H Q => rIxL K x y H Q ∨ rIxT K x y H Q ∨ rIxS x y H Q
theorem ix_seq : IxR X (rIx X.K) := ix_list.or (ix_tup.or ix_str)
theorem mapSeq_set (its : List Value) (n j : Nat) (u : Value) : Obj.mapSeq (·.setIfInBounds j u) { cls := .type "list", data := .seq its.toArray n } = { cls := .type "list", data := .seq (its.set j u).toArray n } := by
  simp [Obj.mapSeq]
theorem Inv.lst {pins : List (Addr × Obj)} {σ : St} {H : Hp} {s : Shared} {p : Addr} {xs : List V} (I : Inv X pins σ H s) (h : H p = some (.lst xs)) :
    ∃ (its : List Value) (n : Nat), Vals xs its ∧ s.heap.get? p = some { cls := .type "list", data := .seq its.toArray n } ∧ xs.length ≤ sizeLine := by
  obtain ⟨z, its, n, r, e⟩ := I.hok p _ h
  exact ⟨its, n, r, e, z⟩
theorem Inv.lstUpd {pins : List (Addr × Obj)} {σ : St} {H : Hp} {s : Shared} {p : Addr} {xs ys : List V} {its its' : List Value} {n n' : Nat} {f : Obj → Obj} (I : Inv X pins σ H s) (h : H p = some (.lst xs))
    (ho : s.heap.get? p = some { cls := .type "list", data := .seq its.toArray n }) (hf : f { cls := .type "list", data := .seq its.toArray n } = { cls := .type "list", data := .seq its'.toArray n' }) (r : Vals ys its') (hz : ys.length ≤ sizeLine) (t : Nat) :
    Inv X pins σ (upd H p (.lst ys)) { s with heap := s.heap.update p f, toks := t } := by
  have e : (s.heap.update p f).get? p = some { cls := .type "list", data := .seq its'.toArray n' } := by
    rw [Heap.get?_update_self f ho (by rw [hf] <;> rfl), hf]
  refine I.write (x := p) (e := p) (by rw [h]; trivial) (.inl rfl) (fun b u hb q => (Heap.get?_update_other _ _ (Ne.symm hb)).trans q) ⟨_, e⟩ ?_
  exact ⟨hz, its', n', r, e⟩
def rSetL : V → V → V → Hp → (Hp → Prop) → Prop := fun o i v H Q => ∃ p xs k j, o = .ref p ∧ i = .int k ∧ H p = some (.lst xs) ∧ ixN xs.length k = some j ∧ Q (upd H p (.lst (xs.set j v)))
theorem set_list : PSet X rSetL := by
  intro pins s σ H o i v ov iv u Q I ro ri rv h
  obtain ⟨p, xs, k, j, rfl, rfl, hp, hj, q⟩ := h
  cases ro
  obtain ⟨t, rfl⟩ := ri
  obtain ⟨its, n, r, ho, hz⟩ := I.lst hp
  obtain ⟨h1, h2, h3, h4⟩ := ixN_seq hj
  have hl := r.length
  have hn := line63
  have I' : Inv X pins σ (upd H p (.lst (xs.set j v))) { s with heap := s.heap.update p (Obj.mapSeq (·.setIfInBounds j u)) } :=
    I.lstUpd hp ho (mapSeq_set its n j u) (r.set rv j) (by rw [List.length_set]; exact hz) s.toks
  by_cases h0 : 0 ≤ k
  · have hk : k.toNat = j := by
      rw [seqIndex_of h0 h4] at h1
      exact Option.some.inj h1
    exact PySem.W.ki_setAt ho h0 (by omega) (by rw [List.size_toArray, ← hl]; exact h4) (by rw [hk]; exact ⟨_, I', q⟩)
  · have hk : (k + (its.toArray.size : Int)).toNat = j := by
      rw [seqIndex_neg (by omega) h3] at h1
      rw [List.size_toArray, ← hl]
      exact Option.some.inj h1
    exact PySem.W.ki_setBack ho (by omega) (by rw [List.size_toArray, ← hl]; exact h3) (by omega) (by rw [hk]; exact ⟨_, I', q⟩)
theorem slice_bounds (lo hi : Option Int) (n : Nat) : (sliceBounds lo hi none n).1 = ((HT.sIx n 0 lo : Nat) : Int) ∧ (sliceBounds lo hi none n).2.1 = ((HT.sIx n n hi : Nat) : Int) ∧ (sliceBounds lo hi none n).2.2 = 1 := by
  refine ⟨?_, ?_, rfl⟩
  · cases lo with
    | none => simp [sliceBounds, HT.sIx]
    | some i =>
      simp only [sliceBounds, HT.sIx, Option.getD_none, show (1 : Int) > 0 by decide, if_true]
      by_cases h : i < 0
      · simp only [h, if_true] <;> omega
      · simp only [h, if_false] <;> omega
  · cases hi with
    | none => simp [sliceBounds, HT.sIx]
    | some i =>
      simp only [sliceBounds, HT.sIx, Option.getD_none, show (1 : Int) > 0 by decide, if_true]
      by_cases h : i < 0
      · simp only [h, if_true] <;> omega
      · simp only [h, if_false] <;> omega
theorem slicePick_cut (its : List Value) (lo hi : Option Int) : slicePick its.toArray lo hi none = ((its.drop (HT.sIx its.length 0 lo)).take (HT.sIx its.length its.length hi - HT.sIx its.length 0 lo)).toArray := by
  obtain ⟨h1, h2, h3⟩ := slice_bounds lo hi its.toArray.size
  unfold slicePick
  rw [h1, h2, h3]
  simp only [sliceRange_one, pick_run, List.size_toArray] <;> rfl
def rSlL (K : PySem.W.Frag) : V → Option Int → Option Int → Hp → VK → Prop := fun x lo hi H Q => ∃ a xs, x = .ref a ∧ SqL K H a xs ∧ ∀ p, H p = none → Q (.ref p) (upd H p (.lst (cutV xs lo hi)))
theorem sl_list : SlR X (rSlL X.K) := by
  intro pins s σ H x v vl vu lo hi sl Q I rx hs pl pu h
  obtain ⟨a, xs, rfl, hx, q⟩ := h
  cases rx
  obtain ⟨its, r, ht, hz⟩ := I.list hx
  have hlen := r.length
  refine ⟨"list", _, slot_list_getitem.lookup, ht.isList.typeIs, ?_⟩
  refine wpAny_getItem_list_slice ht.isList hs pl pu .none (by simp) ?_ (by rw [List.size_toArray] <;> omega)
  rw [slicePick_cut, ← hlen]
  refine ⟨.ref s.heap.objs.size, _, I.laid (t' := s.toks) (o := .lst (cutV xs lo hi)) (fun b ob q => Heap.get?_push_of_some _ q) (Nat.le_refl _) ?_, rfl, q _ (I.hok.fresh (Nat.le_refl _))⟩
  exact ⟨Nat.le_trans (cutV_length xs lo hi) hz, _, 0, (r.drop (HT.sIx xs.length 0 lo)).take (HT.sIx xs.length xs.length hi - HT.sIx xs.length 0 lo), Heap.get?_push_size _ rfl⟩
theorem call_len_seq : CallR X (.builtin "len") (fun xs H Q => ∃ p ys, xs = [.ref p] ∧ (SqL X.K H p ys ∨ SqT X.K H p ys) ∧ Q (.int ys.length) H) := by
  intro pins s σ H xs us Q I r h
  obtain ⟨p, ys, rfl, hq, q⟩ := h
  obtain ⟨u, rfl, rx⟩ := vals1 r
  cases rx
  have hn := line63
  rcases hq with hq | hq
  · obtain ⟨its, r', pl, hz⟩ := I.list hq
    have hlen := r'.length
    exact Calls.call_len_list pl.isList (by simp only [List.size_toArray] <;> omega) ⟨.int ys.length, H, I.tok _, ⟨s.toks + 1, by rw [List.size_toArray, hlen]⟩, q⟩
  · obtain ⟨its, r', pl, hz⟩ := I.tuple hq
    have hlen := r'.length
    exact len_tuple pl (by simp only [List.size_toArray] <;> omega) ⟨.int ys.length, H, I.tok _, ⟨s.toks + 1, by rw [List.size_toArray, hlen]⟩, q⟩
theorem call_list_of : CallR X (.type "list") (fun xs H Q => ∃ p ys, xs = [.ref p] ∧ (SqL X.K H p ys ∨ SqT X.K H p ys) ∧ ∀ l, H l = none → Q (.ref l) (upd H l (.lst ys))) := by
  intro pins s σ H xs us Q I r h
  obtain ⟨p, ys, rfl, hq, q⟩ := h
  obtain ⟨u, rfl, rx⟩ := vals1 r
  cases rx
  have fin : ∀ (its : List Value), Vals ys its → ys.length ≤ sizeLine → ∀ (h' : Heap) (c' : Nat), (∀ b o', s.heap.get? b = some o' → h'.get? b = some o') →
      h'.get? s.heap.objs.size = some { cls := .type "list", dict := none, data := .seq its.toArray c', slots := #[] } → EP X pins σ Q (.ref s.heap.objs.size) { s with heap := h' } := fun its r' hz h' c' kp e =>
    ⟨.ref s.heap.objs.size, _, I.laid (t' := s.toks) kp (Nat.le_refl _) (show ObjOk X.prog X.w _ h' _ (.lst ys) from ⟨hz, its, c', r', e⟩), rfl, q _ (I.hok.fresh (Nat.le_refl _))⟩
  rcases hq with hq | hq
  · obtain ⟨its, r', pl, hz⟩ := I.list hq
    have hlen := r'.length
    obtain ⟨o, ho, hc, n, hd⟩ := pl.isList
    exact call_list_seq p (.inl rfl) ho hc hd (fun h' c' kp e => fin its r' hz h' c' kp e) (by simp only [List.size_toArray] <;> omega)
  · obtain ⟨its, r', pl, hz⟩ := I.tuple hq
    have hlen := r'.length
    obtain ⟨o, ho, hc, n, hd⟩ := pl
    exact call_list_seq p (.inr rfl) ho hc hd (fun h' c' kp e => fin its r' hz h' c' kp e) (by simp only [List.size_toArray] <;> omega)
theorem call_tuple_of : CallR X (.type "tuple") (fun xs H Q => ∃ p ys, xs = [.ref p] ∧ ((SqL X.K H p ys ∧ ∀ l, H l = none → Q (.ref l) (upd H l (.tup ys))) ∨ (SqT X.K H p ys ∧ Q (.ref p) H))) := by
  intro pins s σ H xs us Q I r h
  obtain ⟨p, ys, rfl, h⟩ := h
  obtain ⟨u, rfl, rx⟩ := vals1 r
  cases rx
  rcases h with ⟨hq, q⟩ | ⟨hq, q⟩
  · obtain ⟨its, r', pl, hz⟩ := I.list hq
    have hlen := r'.length
    refine call_tuple_list pl.isList (fun h' kp => ?_) (by simp only [List.size_toArray] <;> omega)
    have I1 : Inv X pins σ H { s with heap := h' } := I.kept (t' := s.toks) kp
    have I2 : Inv X pins σ (upd H h'.objs.size (.tup ys)) { s with heap := h'.push { cls := .type "tuple", data := .seq its.toArray } } :=
      I1.laid (t' := s.toks) (fun b o e => Heap.get?_push_of_some _ e) (Nat.le_refl _) (show ObjOk X.prog X.w _ _ _ (.tup ys) from ⟨hz, its, r', IsTup.new _ _⟩)
    exact ⟨.ref h'.objs.size, _, I2, rfl, q _ (I1.hok.fresh (Nat.le_refl _))⟩
  · obtain ⟨its, r', pl, hz⟩ := I.tuple hq
    exact call_tuple_same pl ⟨.ref p, H, I, rfl, q⟩
def tyV (K : PySem.W.Frag) (T : String) (x : V) (H : Hp) : Prop := match x with
  | .str _ => T = "str"
  | .int _ => T = "int"
  | .ref p => (T = "list" ∧ ∃ xs, SqL K H p xs) ∨ (T = "tuple" ∧ ∃ o, K.lookup p = some o ∧ o.cls = .type "tuple" ∧ o.dict = none) ∨
      (T = "dict" ∧ ((∃ kvs, H p = some (.dK kvs)) ∨ ∃ kvs, H p = some (.dT kvs))) ∨ (T = "set" ∧ ∃ S n, H p = some (.set S n))
  | _ => False
theorem tyV_is {pins : List (Addr × Obj)} {σ : St} {H : Hp} {s : Shared} {T : String} {x : V} {v : Value} (I : Inv X pins σ H s) (r : RelV x v) (ty : tyV X.K T x H) :
    s.TypeIs v T ∧ ∀ a, v = .ref a → ∃ ob, s.heap.get? a = some ob ∧ ob.dict = none := by
  cases x with
  | str z =>
    obtain ⟨t, rfl⟩ := r
    cases (show T = "str" from ty)
    exact ⟨typeIs_str s z t, fun _ e => nomatch e⟩
  | int i =>
    obtain ⟨t, rfl⟩ := r
    cases (show T = "int" from ty)
    exact ⟨typeIs_int s i t, fun _ e => nomatch e⟩
  | ref p =>
    cases r
    rcases ty with ⟨rfl, xs, hq⟩ | ⟨rfl, o, hk, hc, hd⟩ | ⟨rfl, hk⟩ | ⟨rfl, S, n, hk⟩
    · obtain ⟨its, _, pl, _⟩ := I.list hq
      refine ⟨pl.isList.typeIs, fun a e => ?_⟩
      cases e
      obtain ⟨o, n, e, c, hd, _⟩ := pl
      exact ⟨o, e, hd⟩
    · refine ⟨⟨o, I.kIn p o hk, hc⟩, fun a e => ?_⟩
      cases e
      exact ⟨o, I.kIn _ o hk, hd⟩
    · have z : ∃ o, s.heap.get? p = some o ∧ o.ExactDict := by
        rcases hk with ⟨kvs, hk⟩ | ⟨kvs, hk⟩
        · obtain ⟨_, _, _, _, o, _, _, e, ex, _⟩ := I.hok p _ hk
          exact ⟨o, e, ex⟩
        · obtain ⟨_, _, _, _, o, _, _, e, ex, _⟩ := I.hok p _ hk
          exact ⟨o, e, ex⟩
      obtain ⟨o, e, ex⟩ := z
      refine ⟨⟨o, e, ex.1⟩, fun a e2 => ?_⟩
      cases e2
      exact ⟨o, e, ex.2.1⟩
    · obtain ⟨o, _, _, _, e, ex, _⟩ := I.hok p _ hk
      refine ⟨⟨o, e, ex.1⟩, fun a e2 => ?_⟩
      cases e2
      exact ⟨o, e, ex.2.1⟩
  | _ => exact False.elim ty
def tBM0 (K : PySem.W.Frag) (T : String) (r : V → List V → Hp → VK → Prop) (to : TE) : TE := fun σ H Q => to σ H fun x H1 => tyV K T x H1 ∧ r x [] H1 Q
def tBM (K : PySem.W.Frag) (T : String) (r : V → List V → Hp → VK → Prop) (to : TE) (t : TA) : TE := fun σ H Q => to σ H fun x H1 => tyV K T x H1 ∧ t σ H1 fun xs H2 => r x xs H2 Q
variable {o e : Expr} {es : List Expr} {to : TE} {t : TA} {name : Str} {apos cpos : Pos} {T id : String} {r : V → List V → Hp → VK → Prop}
theorem pe_bm0 (pa : PlainAttrs T) (slot : Slot T name id) (hty : typeOf (.builtin id) = pure (.type "method_descriptor")) (hm : MtR X id r) (ho : PE X o to)
    (hbase : autoParam (attributeBase o name X.env (eval o X.env) = eval o X.env) u5._auto_1) (hline : autoParam ((apos.endLine == cpos.line) = true) u5._auto_1) : PE X (.Call (.Attribute o name apos) [] [] cpos) (tBM0 X.K T r to) := by
  intro pins s σ H Q I h
  refine wpAny_Call_method0_late hbase hline (thn (ho pins s σ H _ I h) fun v s1 ⟨x, H1, I1, r1, ty, q1⟩ => ?_)
  obtain ⟨h1, h2⟩ := tyV_is I1 r1 ty
  exact ⟨T, id, pa, slot, hty, h1, h2, Calls.callWith_builtin rfl (PySem.evalArgs_none (hm pins s1 σ H1 x [] v [] Q I1 r1 .nil q1))⟩
theorem pe_bm (pa : PlainAttrs T) (slot : Slot T name id) (hty : typeOf (.builtin id) = pure (.type "method_descriptor")) (hm : MtR X id r) (ho : PE X o to) (ha : PA X (e :: es) t)
    (hbase : autoParam (attributeBase o name X.env (eval o X.env) = eval o X.env) u5._auto_1)
    (hfew : autoParam (((backTo cpos (starEach (e :: es) X.env)).all (fun x => !x.1) && (backToKw cpos (keywordEach [] X.env)).all (fun x => x.1.isSome)
      && decide ((e :: es).length + ([] : List Keyword).length + (if ([] : List Keyword).isEmpty then 0 else 1) < 30)) = true) u5._auto_1)
    (hline : autoParam ((apos.endLine == cpos.line) = true) u5._auto_1) (hs : autoParam (starEach (e :: es) X.env = (false, eval e X.env) :: starEach es X.env) u5._auto_1) (hplain : autoParam ((backTo cpos (starEach es X.env)).any (·.1) = false) u5._auto_1) :
    PE X (.Call (.Attribute o name apos) (e :: es) [] cpos) (tBM X.K T r to t) := by
  intro pins s σ H Q I h
  refine wpAny_Call_method_late hbase hfew hline rfl (thn (ho pins s σ H _ I h) fun v s1 ⟨x, H1, I1, r1, ty, q1⟩ => ?_)
  obtain ⟨h1, h2⟩ := tyV_is I1 r1 ty
  refine ⟨T, id, pa, slot, hty, h1, h2, ?_⟩
  have hA := ha cpos pins s1 σ H1 _ I1 q1
  rw [hs] at hA ⊢
  refine Calls.callWith_builtin (by show (false || (backTo cpos (starEach es X.env)).any (·.1)) = false; rw [hplain] <;> rfl) (Calls.evalArgs_plain ?_)
  exact thn hA fun us s2 ⟨vs, H2, I2, r2, q2⟩ => hm pins s2 σ H2 x vs v us Q I2 r1 r2 q2
/- xs.append(e), list.index on a module's tuple .. are MtR facts of 06m -/
end
end L2
namespace L2
open PySem PySem.Spec PyProof.Rows
def MtM (X : Cx) (id : String) (r : V → List V → Hp → VK → Prop) : Prop :=
  ∀ (pins : List (Addr × Obj)) (s : Shared) (σ : St) (H : Hp) (x : V) (xs : List V) (v : Value) (us : List Value) (Q : VK), Inv X pins σ H s → RelV x v → Vals xs us → r x xs H Q →
    wpAny (model X.prog X.w) X.A (call (.builtin id) (v :: us)) (EP X pins σ Q) X.xe s
theorem Vals.one : ∀ {x : V} {us : List Value}, Vals [x] us → ∃ u, us = [u] ∧ RelV x u
  | _, _, .cons r .nil => ⟨_, rfl, r⟩
theorem Vals.zero : ∀ {us : List Value}, Vals [] us → us = []
  | _, .nil => rfl
theorem Vals.dropLast {xs : List V} {us : List Value} (h : Vals xs us) : Vals xs.dropLast us.dropLast := by
  induction h with
  | nil => exact .nil
  | cons r t ih =>
    cases t with
    | nil => exact .nil
    | cons q t' => exact .cons r ih
theorem Vals.eraseIdx : ∀ {xs : List V} {us : List Value} (i : Nat), Vals xs us → Vals (xs.eraseIdx i) (us.eraseIdx i)
  | _, _, _, .nil => .nil
  | _, _, 0, .cons _ t => t
  | _, _, i + 1, .cons r t => .cons r (Vals.eraseIdx i t)
theorem erase_last {α : Type} (l : List α) : l.eraseIdx (l.length - 1) = l.dropLast := by
  induction l with
  | nil => rfl
  | cons a r ih =>
    cases r with
    | nil => rfl
    | cons b r =>
      have e : (a :: b :: r).length - 1 = ((b :: r).length - 1) + 1 := by
        have h1 : (a :: b :: r).length = r.length + 2 := rfl
        have h2 : (b :: r).length = r.length + 1 := rfl
        omega
      rw [e, List.eraseIdx_cons_succ, ih]
      all_goals rfl
theorem len_erase {α : Type} : ∀ (l : List α) (i : Nat), (l.eraseIdx i).length ≤ l.length
  | [], _ => Nat.le_refl _
  | _ :: _, 0 => Nat.le_succ _
  | _ :: r, i + 1 => Nat.succ_le_succ (len_erase r i)
section
variable {X : Cx} {pins : List (Addr × Obj)} {σ : St} {H : Hp} {s : Shared} {l b : Addr} {xs ys zs : List V}
theorem Inv.lset {its its' : List Value} {n : Nat} {f : Array Value → Array Value} {t' : Nat} (I : Inv X pins σ H s) (hH : H l = some (.lst xs))
    (e : s.heap.get? l = some { cls := .type "list", data := .seq its.toArray n }) (hf : f its.toArray = its'.toArray) (hv : Vals ys its') (hz : ys.length ≤ sizeLine) :
    Inv X pins σ (upd H l (.lst ys)) { s with heap := s.heap.update l (Obj.mapSeq f), toks := t' } := by
  have q := PySem.IsL.update e f
  rw [hf] at q
  refine I.write (x := l) (e := l) (by rw [hH]; exact trivial) (.inl rfl) (fun b' u hb hu => (Heap.get?_update_other s.heap (Obj.mapSeq f) (Ne.symm hb)).trans hu) ⟨_, q⟩ ?_
  exact ⟨hz, its', _, hv, q⟩
theorem Inv.lnew {its : List Value} {t' : Nat} (I : Inv X pins σ H s) (hv : Vals ys its) (hz : ys.length ≤ sizeLine) :
    Inv X pins σ (upd H s.heap.objs.size (.lst ys)) { s with heap := s.heap.push { cls := .type "list", data := .seq its.toArray }, toks := t' } :=
  I.laid (fun _ _ q => Heap.get?_push_of_some _ q) (Nat.le_refl _) ⟨hz, its, 0, hv, Heap.get?_push_size _ rfl⟩
theorem Inv.fresh (I : Inv X pins σ H s) : H s.heap.objs.size = none := I.hok.fresh (Nat.le_refl _)
theorem Inv.lstM (I : Inv X pins σ H s) (hH : H l = some (.lst xs)) : xs.length ≤ sizeLine ∧ ∃ (its : List Value) (n : Nat), Vals xs its ∧ xs.length = its.length ∧ s.heap.get? l = some { cls := .type "list", data := .seq its.toArray n } := by
  obtain ⟨z, its, n, r, e⟩ := I.hok l _ hH
  exact ⟨z, its, n, r, r.length, e⟩
theorem notLongL {n : Nat} (h : n ≤ sizeLine) : Builtin.List.listTooLong n = false := by
  unfold Builtin.List.listTooLong
  exact decide_eq_false (by omega)
end
section
variable {X : Cx}
def rAppend : V → List V → Hp → VK → Prop := fun x vs H Q => ∃ l xs y, x = .ref l ∧ vs = [y] ∧ H l = some (.lst xs) ∧ xs.length < sizeLine ∧ Q .non (upd H l (.lst (xs ++ [y])))
theorem mt_append : MtM X "list.append" rAppend := by
  intro pins s σ H x vs v us Q I rx rv h
  obtain ⟨l, xs, y, rfl, rfl, hH, hz, q⟩ := h
  cases rx
  obtain ⟨u, rfl, ru⟩ := rv.one
  obtain ⟨z, its, n, r, hl, e⟩ := I.lstM hH
  refine call_meets F.slot_list_append ⟨_, e, rfl⟩ F.entry_list_append (F.args_list_append_2 _ _) (PySem.list_append l its.toArray n u (by rw [List.size_toArray]; omega)) ⟨e, ?_⟩
  refine ⟨.non, _, I.lset (its' := its ++ [u]) hH e (by simp) (r.append (.cons ru .nil)) ?_, rfl, q⟩
  rw [List.length_append, List.length_singleton]
  omega
def rExtend : V → List V → Hp → VK → Prop := fun x vs H Q => ∃ l b xs zs, x = .ref l ∧ vs = [.ref b] ∧ H l = some (.lst xs) ∧ H b = some (.lst zs) ∧ xs.length + zs.length ≤ sizeLine ∧ Q .non (upd H l (.lst (xs ++ zs)))
theorem mt_extend : MtM X "list.extend" rExtend := by
  intro pins s σ H x vs v us Q I rx rv h
  obtain ⟨l, b, xs, zs, rfl, rfl, hH, hB, hz, q⟩ := h
  cases rx
  obtain ⟨u, rfl, ru⟩ := rv.one
  cases ru
  obtain ⟨z, its, n, r, hl, e⟩ := I.lstM hH
  obtain ⟨z2, its2, n2, r2, hl2, e2⟩ := I.lstM hB
  have hsz : its.toArray.size + its2.toArray.size ≤ sizeLine := by rw [List.size_toArray, List.size_toArray]; omega
  have hlong : ¬ (!its.toArray.isEmpty && Builtin.List.listTooLong (its.toArray.size + its2.toArray.size)) = true := by
    rw [notLongL hsz, Bool.and_false]
    exact Bool.false_ne_true
  refine call_meets F.slot_list_extend ⟨_, e, rfl⟩ F.entry_list_extend (F.args_list_extend_2 _ _)
    (AutoSeq1.list_extend_list_list_0 l its.toArray n b its2.toArray n2 hlong (by rw [List.size_toArray]; omega) (by omega)) ⟨e, e2, ?_⟩
  refine ⟨.non, _, I.lset (its' := its ++ its2) hH e (by simp) (r.append r2) ?_, rfl, q⟩
  rw [List.length_append]
  omega
def rPop : V → List V → Hp → VK → Prop := fun x vs H Q => ∃ l xs y, x = .ref l ∧ vs = [] ∧ H l = some (.lst xs) ∧ xs[xs.length - 1]? = some y ∧ Q y (upd H l (.lst xs.dropLast))
theorem mt_pop : MtM X "list.pop" rPop := by
  intro pins s σ H x vs v us Q I rx rv h
  obtain ⟨l, xs, y, rfl, rfl, hH, hy, q⟩ := h
  cases rx
  have hus := rv.zero
  subst hus
  obtain ⟨z, its, n, r, hl, e⟩ := I.lstM hH
  obtain ⟨u, hu, ru⟩ := r.get hy
  have hy' : its.toArray[its.toArray.size - 1]? = some u := by
    show its.toArray[its.length - 1]? = some u
    rw [← Array.getElem?_toList, ← hl]
    exact hu
  refine call_meets F.slot_list_pop ⟨_, e, rfl⟩ F.entry_list_pop (F.args_list_pop_1 _) (MeetsSeq.list_pop_last l its.toArray n u hy' (by rw [List.size_toArray]; omega)) ⟨e, ?_⟩
  refine ⟨y, _, I.lset (its' := its.dropLast) hH e ?_ r.dropLast ?_, ru, q⟩
  · show its.toArray.eraseIdxIfInBounds (its.toArray.size - 1) = its.dropLast.toArray
    rw [List.size_toArray, List.eraseIdxIfInBounds_toArray, erase_last]
  · rw [List.length_dropLast]
    omega
def rPopAt : V → List V → Hp → VK → Prop := fun x vs H Q => ∃ l xs i k y, x = .ref l ∧ vs = [.int i] ∧ H l = some (.lst xs) ∧ -(2 ^ 63) ≤ i ∧ i < 2 ^ 63 ∧ seqIndex? i xs.length = some k ∧ xs[k]? = some y ∧ Q y (upd H l (.lst (xs.eraseIdx k)))
theorem mt_popAt : MtM X "list.pop" rPopAt := by
  intro pins s σ H x vs v us Q I rx rv h
  obtain ⟨l, xs, i, k, y, rfl, rfl, hH, h1, h2, hk, hy, q⟩ := h
  cases rx
  obtain ⟨u, rfl, ru⟩ := rv.one
  obtain ⟨t, rfl⟩ := ru
  obtain ⟨z, its, n, r, hl, e⟩ := I.lstM hH
  obtain ⟨w, hw, rw'⟩ := r.get hy
  refine call_meets F.slot_list_pop ⟨_, e, rfl⟩ F.entry_list_pop (F.args_list_pop_2 _ _)
    (MeetsSeq.list_pop_at l its.toArray n i t k w (fitsIndex_both h1 h2) (by rw [List.size_toArray, ← hl]; exact hk) (by rw [← Array.getElem?_toList]; exact hw) (by rw [List.size_toArray]; omega)) ⟨e, ?_⟩
  refine ⟨y, _, I.lset (its' := its.eraseIdx k) hH e ?_ (r.eraseIdx k) ?_, rw', q⟩
  · show its.toArray.eraseIdxIfInBounds k = (its.eraseIdx k).toArray
    rw [List.eraseIdxIfInBounds_toArray]
  · have := len_erase xs k
    omega
def rCat : R2 := fun x y H Q => ∃ l b xs zs, x = .ref l ∧ y = .ref b ∧ H l = some (.lst xs) ∧ H b = some (.lst zs) ∧ xs.length + zs.length ≤ sizeLine ∧ ∀ p, H p = none → Q (.ref p) (upd H p (.lst (xs ++ zs)))
theorem op_cat : OpR X (binaryOp .Add) rCat := by
  intro pins s σ H x y v u Q I rx ry h
  obtain ⟨l, b, xs, zs, rfl, rfl, hH, hB, hz, q⟩ := h
  cases rx
  cases ry
  obtain ⟨z, its, n, r, hl, e⟩ := I.lstM hH
  obtain ⟨z2, its2, n2, r2, hl2, e2⟩ := I.lstM hB
  refine PySem.P.add_list e e2 ?_ (by rw [List.size_toArray, List.size_toArray]; omega)
  have ea : its.toArray ++ its2.toArray = (its ++ its2).toArray := by simp
  rw [ea]
  exact ⟨.ref _, _, I.lnew (t' := s.toks) (r.append r2) (by rw [List.length_append]; omega), rfl, q _ I.fresh⟩
end
section
variable {prog : Program} {w : World} {A : Around} {E : Value → Shared → Prop} {s : Shared}
end
section
variable {X : Cx}
end
end L2
namespace Att
open PySem PySem.W PySem.Calls PyProof.Rows
theorem ints_of_wellAll {P : Params} {h : Heap} : ∀ (ns : List Int) (vs : List Value), WellAll P h vs (ns.map WData.int) → IntsAre vs ns := by
  intro ns
  induction ns with
  | nil =>
    intro vs w
    rw [List.map_nil] at w
    cases w
    exact .nil
  | cons n ns ih =>
    intro vs w
    rw [List.map_cons] at w
    cases w with
    | cons a b =>
      cases a
      exact .cons _ _ (ih _ b)
theorem script_of {l : OpenLaw} {n : Nat} (hn : l.most = some n) {P : Params} {h : Heap} {args : List WData} {vals : List Value}
    (hpre : l.row.toRowW.claim.pre args = true) (hwl : WellAll P h vals args) :
    ∃ a vs ns, vals = [Value.ref a] ∧ args = [WData.list (ns.map WData.int)] ∧ h.get? a = some { cls := .type "list", data := .seq vs.toArray } ∧ IntsAre vs ns ∧ ns.length ≤ n := by
  have hsh : WShape.hasAll [] args [.list .int] = true := (pre_splitW hpre).1
  have hc : l.pre.holds [] { args := args } = true := (pre_splitW hpre).2
  obtain ⟨d, r, rfl, h1, h2⟩ := hasAllW_cons hsh
  obtain rfl := hasAllW_nil h2
  obtain ⟨xs, rfl, h3⟩ := hasW_list h1
  obtain ⟨ns, rfl⟩ := items_int h3
  have hlen : ns.length ≤ n := by
    unfold OpenLaw.pre at hc
    have h4 : (WTm.not (.lt (.lit (.int (n : Int))) (.len (.arg 0)))).holds [] { args := [.list (ns.map .int)] } = true := by
      have h4 := (holds_andW hc).1
      rw [hn] at h4
      exact h4
    have h5 := condW_of h4 (w_not (w_lt w_lit (w_len_list (w_arg rfl))))
    rw [List.length_map] at h5
    refine Nat.le_of_not_lt fun q => ?_
    have q' : (n : Int) < ((ns.length : Nat) : Int) := by omega
    first
      | (rw [decide_eq_true q'] at h5; exact absurd h5 (by decide))
      | (simp at h5; omega)
  cases hwl with
  | cons w1 w2 =>
    cases w2
    cases w1 with
    | list ho hall => exact ⟨_, _, ns, rfl, rfl, ho, ints_of_wellAll ns _ hall, hlen⟩
theorem post_true (l : OpenLaw) (args : List WData) : l.row.toRowW.claim.post args (.bool true) args = true :=
  postW_of (r := l.row.toRowW) (X := (true == true))
    (show WShape.has [] (.bool true) .bool = true by first | rfl | decide | simp [WShape.has, WShape.arms, WShape.armsAll])
    (show (WTm.eq .res (.lit (.bool true))).value [] { args := args, res := some (.bool true), after := args } = some (.bool (true == true)) from w_eq_bool (w_res rfl) w_lit) rfl
theorem attach_call {l : OpenLaw} {n : Nat} {q : Program} {loose : List Str} {XP : (Str → Option Value) → Heap → Prop} {YP : World → Heap → Prop} {d : DefRec}
    (hn : l.most = some n) (hdf : d.params.defaults = [])
    (call : ∀ (w : World) (s₀ s₁ : Shared) (mg mb : Str → Option Value) (fa : Addr) (o : Obj) (pm cd doc : Value) (a : Addr) (vs : List Value) (ns : List Int),
      Ground q loose [] XP w s₀ mg mb s₁.heap → YP w s₁.heap →
      s₁.heap.get? fa = some o → o.data = .func (docDef d.name d.params d.body d.scope pm cd doc) → s₁.heap.CodeRec cd d.name → mg d.name = some (.ref fa) →
      s₁.heap.get? a = some { cls := .type "list", data := .seq vs.toArray } → IntsAre vs ns → ns.length ≤ n → s₁.gens = #[] →
      codeAny (model l.prog w) callerA (.call (.ref fa) ⟨[.ref a], []⟩) (fun r s' => r = .ok (.ret (.bool true)) ∧ OldK s₁.heap s'.heap ∧ s'.os = s₁.os ∧ AllBare s'.gens) s₁) :
    WalkO q loose XP YP l.row.toRowW d [] (fun f vs => PySem.call f vs) := by
  intro w s₀ s₁ mg mb G Y fa o pm cd doc dV kV ho hd hcd hD hmg hg args vals as hpre hlay hrd hwl hlo
  obtain rfl : dV = .none := Dflts.none hD hdf
  obtain rfl : kV = .none := Dflts.noKw hD
  obtain ⟨a, vs, ns, rfl, rfl, hobj, hints, hlen⟩ := script_of hn hpre hwl
  refine enter_call (codeAny_mono (call w s₀ s₁ mg mb fa o pm cd doc a vs ns G Y ho (fd_plain hd) hcd hmg hobj hints hlen hg) fun r s' hq => ?_)
  obtain ⟨rfl, h2, h3, h4⟩ := hq
  exact ⟨.inl ⟨.bool true, .bool true, [], rfl, fun _ => rfl, .bool true, post_true l _, fun _ => ⟨List.Pairwise.nil, fun _ hm => (nomatch hm)⟩⟩, h2, h3, h4⟩
section
variable {prog : Program} {w : World} {A : Around} {E : Value → Shared → Prop} {s : Shared} {K : Frag}
end
end Att
namespace L2
open PySem PySem.Spec PyProof.Rows
theorem vals_ints : ∀ {vs : List Value} {ns : List Int}, IntsAre vs ns → Vals (ns.map V.int) vs
  | _, _, .nil => .nil
  | _, _, .cons n t h => .cons ⟨t, rfl⟩ (vals_ints h)
end L2
namespace L2
open PySem PySem.Spec PyProof.Rows
end L2
namespace L2
open PySem PySem.Spec PyProof.Rows
def defArgs (s : Stmt) : Arguments := match s with
  | .FunctionDef _ a _ _ _ _ _ _ _ _ => a
  | _ => { posonlyargs := [], args := [], vararg := none, kwonlyargs := [], kw_defaults := [], kwarg := none, defaults := [] }
def defBody (s : Stmt) : List Stmt := match s with
  | .FunctionDef _ _ b _ _ _ _ _ _ _ => b
  | _ => []
def defScope (s : Stmt) : Scope := match s with
  | .FunctionDef _ _ _ _ _ _ sc _ _ _ => sc
  | _ => { kind := .function, names := [], isGenerator := false, isCoroutine := false }
abbrev CX0 : CXT := fun _ _ _ _ _ _ => False
abbrev E0 : XK := fun _ _ _ => False
theorem pass0 {X : Cx} : Passes CX0 X E0 := fun _ _ _ _ _ _ _ h => h.elim
structure Fun (K : PySem.W.Frag) (x qual : Str) (st : Stmt) (f : Addr) (fd : FuncData) : Prop where
  ex : ∃ (oc : Value) (od : Option Addr) (kV doc pm : Value) (an : Option Addr) (cdv ct : Value) (osl : Array (Option Value)),
    fd = PySem.W.fnOf x qual (defArgs st) (defBody st) (defScope st) .none kV doc pm an cdv ct ∧ K.lookup f = some ⟨oc, od, .func fd, osl⟩ ∧ PySem.W.codeIn K cdv qual = true
  kp : PySem.W.keepIn K (.ref f) = true
section
variable {P : Program} {w : World} {K : PySem.W.Frag} {mg : Str → Option Value} {base : Heap}
theorem Fun.ok {x qual : Str} {st : Stmt} {f : Addr} {fd : FuncData} {N ps : List Str} {k : Nat} {sp : Sp} (F : Fun K x qual st f fd) (S : FnScope N ps (defScope st)) (len : ∀ vs H Q E, sp vs H Q E → vs.length = ps.length)
    (hbody : ∀ (cdv : Value) (A : Around) (outer : List Env) (s : Shared) (H : Hp) (vs : List V) (Q : VK) (E : XK), Room k (A.deeper (envOfC qual (defScope st) s.heap.objs.size f cdv)) → sp vs H Q E →
      ∃ t, PSs (cxOf CX0 P w K mg base N qual (defScope st) f cdv A outer s H E).nox (defBody st) t ∧ t { nx := fun _ H' => Q .non H', rt := Q } (start N vs) H) : FnOk P w K mg base CX0 (k + 1) f fd ps sp := by
  obtain ⟨oc, od, kV, doc, pm, an, cdv, ct, osl, rfl, lk, hcd⟩ := F.ex
  refine fn_of lk hcd S len fun A outer s H vs Q E hr hsp => ?_
  obtain ⟨t, h, q⟩ := hbody cdv A outer s H vs Q E hr hsp
  exact ⟨t, h.nox, q⟩
theorem Fun.binds {x qual : Str} {st : Stmt} {f : Addr} {fd : FuncData} {ps : List Str} (F : Fun K x qual st f fd)
    (h : ∀ (kV doc pm : Value) (an : Option Addr) (cdv ct : Value) (us : List Value), us.length = ps.length → bindArgs (PySem.W.fnOf x qual (defArgs st) (defBody st) (defScope st) .none kV doc pm an cdv ct) ⟨us, []⟩ = pure (ps.zip us)) : Binds K fd ps [] := by
  obtain ⟨oc, od, kV, doc, pm, an, cdv, ct, osl, rfl, lk, hcd⟩ := F.ex
  exact .all (h kV doc pm an cdv ct)
theorem fun_mk {x qual : Str} {st : Stmt} {f : Addr} {oc : Value} {od an : Option Addr} {osl : Array (Option Value)} {kV doc pm cdv ct : Value} (l : K.lookup f = some ⟨oc, od, .func (PySem.W.fnOf x qual (defArgs st) (defBody st) (defScope st) .none kV doc pm an cdv ct), osl⟩)
    (c : PySem.W.codeIn K cdv qual = true) (k : PySem.W.keepIn K (.ref f) = true) : Fun K x qual st f (PySem.W.fnOf x qual (defArgs st) (defBody st) (defScope st) .none kV doc pm an cdv ct) := ⟨⟨oc, od, kV, doc, pm, an, cdv, ct, osl, rfl, l, c⟩, k⟩
end
section
variable {X : Cx}
theorem pv (i : Nat) {x : Str} {pos : Pos} (hN : autoParam (X.N[i]? = some x) u5._auto_1) (hv : autoParam (Vis X.env.scope x) u7._auto_1) (hd : autoParam ((x == ("__debug__" : Str)) = false) u2._auto_1)
    (hcd : autoParam ((x == ("__classdict__" : Str)) = false) u2._auto_1) : PE X (.Name x pos) (tVar i) := pe_var hN hv hd hcd
end
theorem ite2 {c A B : Prop} [Decidable c] (h1 : c → A) (h2 : ¬ c → B) : if c then A else B := by
  by_cases h : c
  · rw [if_pos h]
    exact h1 h
  · rw [if_neg h]
    exact h2 h
def Same (H H' : Hp) : Prop := ∀ b o, H b = some o → H' b = some o
theorem Same.refl (H : Hp) : Same H H := fun _ _ h => h
theorem Same.trans {H H1 H2 : Hp} (a : Same H H1) (b : Same H1 H2) : Same H H2 := fun c o h => b c o (a c o h)
theorem Same.free {H H' : Hp} (e : Same H H') {l : Addr} (h : H' l = Option.none) : H l = Option.none := by
  cases q : H l with
  | none => rfl
  | some o =>
    rw [e l o q] at h
    cases h
theorem Same.seq {K : PySem.W.Frag} {H H' : Hp} {a : Addr} {xs : List V} (e : Same H H') (h : SqL K H a xs) : SqL K H' a xs := by
  rcases h with (h | ⟨o, h⟩) | h
  · exact .inl (.inl (e _ _ h))
  · exact .inl (.inr ⟨o, e _ _ h⟩)
  · exact .inr h
section
variable {κ : Type} [DecidableEq κ]
end
end L2
set_option Elab.async false
set_option linter.all false
set_option maxRecDepth 100000
namespace L2
open PySem PySem.Spec PyProof.Rows
def closOf (env : Env) : List (Str × NameKind) → List (Str × Addr) → List (Str × Addr)
  | [], acc => acc
  | (n, k) :: r, acc => if (k == NameKind.free) = true then closOf env r ((n, (env.cells.lookup n).getD 0) :: acc) else closOf env r acc
theorem forIn_clos {env : Env} (f : Str × NameKind → List (Str × Addr) → Sem (ForInStep (List (Str × Addr))))
    (hf : ∀ name kind cs, f (name, kind) cs = if (kind == NameKind.free) = true then (cellOf env name >>= fun a => pure (.yield ((name, a) :: cs))) else pure (.yield cs)) :
    ∀ (names : List (Str × NameKind)) (acc : List (Str × Addr)), (∀ x ∈ names, x.2 = .free → ∃ c, env.cells.lookup x.1 = some c) → forIn names acc f = pure (closOf env names acc)
  | [], acc, _ => by rw [List.forIn_nil]; rfl
  | (n, k) :: r, acc, h => by
    have hr : ∀ x ∈ r, x.2 = .free → ∃ c, env.cells.lookup x.1 = some c := fun x hx => h x (List.mem_cons_of_mem _ hx)
    rw [List.forIn_cons, hf]
    unfold closOf
    by_cases hk : (k == NameKind.free) = true
    · rw [if_pos hk, if_pos hk]
      obtain ⟨c, e⟩ := h (n, k) List.mem_cons_self (by simpa using hk)
      have e : env.cells.lookup n = some c := e
      have e1 : cellOf env n = pure c := by unfold cellOf; rw [e]
      rw [e1, e]
      exact forIn_clos f hf r _ hr
    · rw [if_neg hk, if_neg hk]
      exact forIn_clos f hf r _ hr
theorem closureFor_of {env : Env} {scope : Scope} (h : ∀ x ∈ scope.names, x.2 = .free → ∃ c, env.cells.lookup x.1 = some c) : closureFor scope env = pure (closOf env scope.names []) := by
  simp only [closureFor]
  rw [forIn_clos (env := env) _ (fun name kind cs => ?_) scope.names [] h]
  · rfl
  · cases hk : kind == NameKind.free <;> simp [hk]
theorem closOf_mem {env : Env} : ∀ {names : List (Str × NameKind)} {acc : List (Str × Addr)} {p : Str × Addr}, p ∈ closOf env names acc → p ∈ acc ∨ (p.1, NameKind.free) ∈ names ∧ p.2 = (env.cells.lookup p.1).getD 0
  | [], _, _, h => .inl h
  | (n, k) :: r, acc, p, h => by
    unfold closOf at h
    split at h
    · rename_i hk
      rcases closOf_mem h with q | ⟨q1, q2⟩
      · rcases List.mem_cons.mp q with rfl | q
        · exact .inr ⟨by rw [beq_iff_eq.mp hk]; exact List.mem_cons_self, rfl⟩
        · exact .inl q
      · exact .inr ⟨List.mem_cons_of_mem _ q1, q2⟩
    · rcases closOf_mem h with q | ⟨q1, q2⟩
      · exact .inl q
      · exact .inr ⟨List.mem_cons_of_mem _ q1, q2⟩
theorem closOf_keep {env : Env} {x : Str} : ∀ {names : List (Str × NameKind)} {acc : List (Str × Addr)}, acc.lookup x = some ((env.cells.lookup x).getD 0) → (closOf env names acc).lookup x = some ((env.cells.lookup x).getD 0)
  | [], _, h => h
  | (n, k) :: r, acc, h => by
    unfold closOf
    split
    · refine closOf_keep ?_
      rw [List.lookup_cons]
      cases hb : x == n with
      | true =>
        have e := beq_iff_eq.mp hb
        subst e
        rfl
      | false => exact h
    · exact closOf_keep h
theorem closOf_look {env : Env} {x : Str} : ∀ {names : List (Str × NameKind)} {acc : List (Str × Addr)}, names.lookup x = some .free → (closOf env names acc).lookup x = some ((env.cells.lookup x).getD 0)
  | [], _, h => by cases h
  | (n, k) :: r, acc, h => by
    rw [List.lookup_cons] at h
    unfold closOf
    cases hb : x == n with
    | true =>
      rw [hb] at h
      have e := beq_iff_eq.mp hb
      subst e
      have h : k = NameKind.free := Option.some.inj h
      subst h
      rw [if_pos (by rfl)]
      refine closOf_keep ?_
      rw [List.lookup_cons, hb]
    | false =>
      rw [hb] at h
      split
      · exact closOf_look h
      · exact closOf_look h
def InjL (cs : List (Str × Addr)) : Prop := ∀ p ∈ cs, ∀ q ∈ cs, p.2 = q.2 → p.1 = q.1
theorem cellsFrom_inj : ∀ {names : List (Str × NameKind)} {n : Nat} {acc : List (Str × Addr)}, (∀ p ∈ acc, p.2 < n) → InjL acc → InjL (cellsFrom n names acc)
  | [], _, _, _, h => h
  | (nm, k) :: r, n, acc, hl, h => by
    unfold cellsFrom
    split
    · refine cellsFrom_inj (fun p hp => ?_) fun p hp q hq e => ?_
      · rcases List.mem_cons.mp hp with rfl | hp
        · exact Nat.lt_succ_self _
        · exact Nat.lt_succ_of_lt (hl p hp)
      · rcases List.mem_cons.mp hp with rfl | hp <;> rcases List.mem_cons.mp hq with rfl | hq
        · rfl
        · have e : n = q.2 := e
          exact absurd (hl q hq) (by rw [← e]; exact Nat.lt_irrefl _)
        · have e : p.2 = n := e
          exact absurd (hl p hp) (by rw [e]; exact Nat.lt_irrefl _)
        · exact h p hp q hq e
    · exact cellsFrom_inj hl h
theorem cellsFrom_old : ∀ {names : List (Str × NameKind)} {n : Nat} {acc : List (Str × Addr)} {p : Str × Addr}, p ∈ cellsFrom n names acc → p ∈ acc ∨ n ≤ p.2
  | [], _, _, _, h => .inl h
  | (nm, k) :: r, n, acc, p, h => by
    unfold cellsFrom at h
    split at h
    · rcases cellsFrom_old h with q | q
      · rcases List.mem_cons.mp q with rfl | q
        · exact .inr (Nat.le_refl _)
        · exact .inl q
      · exact .inr (by omega)
    · exact cellsFrom_old h
theorem cellsFrom_isCell : ∀ {names : List (Str × NameKind)} {h : Heap} {acc : List (Str × Addr)}, (∀ p ∈ acc, ∃ v, h.IsCell p.2 v) → ∀ p ∈ cellsFrom h.objs.size names acc, ∃ v, (pushCells h names).IsCell p.2 v
  | [], _, _, h, p, hp => h p hp
  | (nm, k) :: r, h, acc, ha, p, hp => by
    unfold cellsFrom at hp
    unfold pushCells
    split
    · rename_i hk
      rw [if_pos hk] at hp
      have e : h.objs.size + 1 = (h.push { cls := .type "cell", data := .cell none }).objs.size := (Heap.size_push ..).symm
      rw [e] at hp
      refine cellsFrom_isCell (fun q hq => ?_) p hp
      rcases List.mem_cons.mp hq with rfl | hq
      · exact ⟨none, _, Heap.get?_push_size _ rfl, rfl⟩
      · obtain ⟨v, z⟩ := ha q hq
        exact ⟨v, z.keeps fun b o e => Heap.get?_push_of_some _ e⟩
    · rename_i hk
      rw [if_neg hk] at hp
      exact cellsFrom_isCell ha p hp
theorem cellsFrom_new {x : Str} {c : Addr} {lo : Nat} : ∀ {names : List (Str × NameKind)} {n : Nat} {acc : List (Str × Addr)}, lo ≤ n → (names.lookup x = some .cell ∨ ∀ c', acc.lookup x = some c' → lo ≤ c') →
    (cellsFrom n names acc).lookup x = some c → lo ≤ c
  | [], _, _, _, h, e => by
    rcases h with h | h
    · cases h
    · exact h c e
  | (y, k) :: r, n, acc, hn, h, e => by
    unfold cellsFrom at e
    by_cases hk : (k == NameKind.cell) = true
    · rw [if_pos hk] at e
      refine cellsFrom_new (Nat.le_succ_of_le hn) ?_ e
      cases hb : x == y with
      | true =>
        refine .inr fun c' e' => ?_
        rw [List.lookup_cons, hb] at e'
        have e' : n = c' := Option.some.inj e'
        omega
      | false =>
        rcases h with h | h
        · rw [List.lookup_cons, hb] at h
          exact .inl h
        · refine .inr fun c' e' => ?_
          rw [List.lookup_cons, hb] at e'
          exact h c' e'
    · rw [if_neg hk] at e
      refine cellsFrom_new hn ?_ e
      rcases h with h | h
      · rw [List.lookup_cons] at h
        cases hb : x == y with
        | true =>
          rw [hb] at h
          have h : k = NameKind.cell := Option.some.inj h
          subst h
          exact absurd rfl hk
        | false =>
          rw [hb] at h
          exact .inl h
      · exact .inr h
theorem cellsFrom_other {x : Str} : ∀ {names : List (Str × NameKind)} {n : Nat} {acc : List (Str × Addr)}, (names.all fun p => p.1 != x || p.2 != NameKind.cell) = true → (cellsFrom n names acc).lookup x = acc.lookup x
  | [], _, _, _ => rfl
  | (y, k) :: r, n, acc, h => by
    rw [List.all_cons, Bool.and_eq_true] at h
    unfold cellsFrom
    by_cases hk : (k == NameKind.cell) = true
    · rw [if_pos hk, cellsFrom_other h.2, List.lookup_cons]
      have h1 : (y != x) = true := by
        have := h.1
        rw [Bool.or_eq_true] at this
        rcases this with z | z
        · exact z
        · rw [bne, hk] at z
          cases z
      have hb : (x == y) = false := by
        cases q : x == y with
        | false => rfl
        | true =>
          have e := beq_iff_eq.mp q
          subst e
          rw [bne_self_eq_false] at h1
          cases h1
      rw [hb]
    · rw [if_neg hk]
      exact cellsFrom_other h.2
theorem newEnv_block {M : Model} {A : Around} {E : Value → Shared → Prop} {s : Shared} {scope : Scope} {globals : Addr} {cl : List (Str × Addr)} {qual : Str} {env : Env} {Q : Env → Shared → Prop}
    (h : Q { scope := scope, locals := s.heap.objs.size, globals := globals, cells := cellsFrom (s.heap.objs.size + 1) scope.names cl, qual := qual, func := none, code := env.code, frame := env.frame, builtins := env.builtins }
      { s with heap := pushCells (s.heap.push { cls := .type "dict", data := .dict #[] }) scope.names }) :
    wpAny M A (newFunctionEnv scope globals cl [] qual none .none (some env)) Q E s := by
  simp only [newFunctionEnv, Option.isSome_some, if_true]
  refine wpAny_bind (wpAny_alloc ?_)
  refine wpAny_bind (wpAny_layCells _ (fun name kind cells => by cases hkc : kind == NameKind.cell <;> simp [hkc]) _ _ _ _ ?_)
  rw [show ({ s with heap := s.heap.push { cls := .type "dict", data := .dict #[] } } : Shared).heap.objs.size = s.heap.objs.size + 1 from Heap.size_push ..]
  refine wpAny_bind ?_
  rw [List.forIn_nil]
  exact wpAny_pure (wpAny_pure h)
inductive Caps (X : Cx) (scope : Scope) : List Str → List (Option Nat) → Prop where
  | nil : Caps X scope [] []
  | own {x : Str} {N : List Str} {js : List (Option Nat)} (r : Caps X scope N js) : Caps X scope (x :: N) (none :: js)
  | cap {x : Str} {N : List Str} {js : List (Option Nat)} (j : Nat) (h1 : X.N[j]? = some x) (h2 : scope.names.lookup x = some .free) (h3 : (scope.names.all fun p => p.1 != x || p.2 != NameKind.cell) = true)
      (r : Caps X scope N js) : Caps X scope (x :: N) (some j :: js)
def capSt (σ : St) (js : List (Option Nat)) : St := js.map fun (o : Option Nat) => o.bind fun (j : Nat) => (σ[j]?).join
theorem Caps.len {X : Cx} {scope : Scope} : ∀ {N : List Str} {js : List (Option Nat)}, Caps X scope N js → js.length = N.length
  | _, _, .nil => rfl
  | _, _, .own r => congrArg (· + 1) r.len
  | _, _, .cap _ _ _ _ r => congrArg (· + 1) r.len
theorem Caps.get {X : Cx} {scope : Scope} {σ : St} : ∀ {N : List Str} {js : List (Option Nat)} {i : Nat} {x : Str} {v : V}, Caps X scope N js → N[i]? = some x → (capSt σ js)[i]? = some (some v) →
    ∃ j : Nat, X.N[j]? = some x ∧ σ[j]? = some (some v) ∧ scope.names.lookup x = some .free ∧ (scope.names.all fun p => p.1 != x || p.2 != NameKind.cell) = true
  | _, _, _, _, _, .nil, h, _ => by simp at h
  | _, _, 0, _, _, .own r, _, h2 => by simp [capSt] at h2
  | _, _, i + 1, _, _, .own r, h1, h2 => Caps.get (i := i) r (by simpa using h1) (by simpa [capSt] using h2)
  | _, _, 0, x, v, .cap j a b c r, h1, h2 => by
    simp only [List.getElem?_cons_zero, Option.some.injEq] at h1
    subst h1
    refine ⟨j, a, ?_, b, c⟩
    simp only [capSt, List.map_cons, List.getElem?_cons_zero, Option.some.injEq, Option.bind_some] at h2
    cases e : σ[j]? with
    | none => rw [e] at h2; cases h2
    | some z => rw [e] at h2; rw [show z = some v from h2]
  | _, _, i + 1, _, _, .cap _ _ _ _ r, h1, h2 => Caps.get (i := i) r (by simpa using h1) (by simpa [capSt] using h2)
def cxComp (X : Cx) (scope : Scope) (N' : List Str) (s : Shared) (H : Hp) (fp : List Addr) : Cx where
  prog := X.prog
  w := X.w
  K := X.K
  mg := X.mg
  base := X.base
  A := X.A
  N := N'
  s₀ := s
  H₀ := H
  env := { scope := relabel scope X.env, locals := s.heap.objs.size, globals := X.env.globals, cells := cellsFrom (s.heap.objs.size + 1) scope.names (closOf X.env scope.names []), qual := X.env.qual, func := none, code := X.env.code, frame := X.env.frame, builtins := X.env.builtins }
  outer := X.stack
  stack := X.stack
  ex := fp
  fn := fun x => decide (scope.names.lookup x = some .cell)
  calm := X.calm
  pn := []
  xe := fun _ _ => False
theorem relabel_look {scope : Scope} {env : Env} {x : Str} {k' : NameKind} : ∀ {names : List (Str × NameKind)},
    (names.map fun (p : Str × NameKind) => if (p.2 == NameKind.free && env.scope.kind == .function && env.kindOf p.1 == some .cell) = true then (p.1, NameKind.cell) else (p.1, p.2)).lookup x = some k' →
    ∃ k, names.lookup x = some k ∧ (k' = k ∨ (k = .free ∧ k' = .cell))
  | [], h => by cases h
  | (n, k) :: r, h => by
    rw [List.map_cons, List.lookup_cons] at h
    rw [List.lookup_cons]
    by_cases hc : (k == NameKind.free && env.scope.kind == .function && env.kindOf n == some .cell) = true
    · rw [if_pos hc] at h
      cases hb : x == n with
      | true =>
        rw [hb] at h
        rw [Bool.and_eq_true, Bool.and_eq_true] at hc
        exact ⟨k, rfl, .inr ⟨beq_iff_eq.mp hc.1.1, (Option.some.inj h).symm⟩⟩
      | false =>
        rw [hb] at h
        exact relabel_look (scope := scope) h
    · rw [if_neg hc] at h
      cases hb : x == n with
      | true =>
        rw [hb] at h
        exact ⟨k, rfl, .inl (Option.some.inj h).symm⟩
      | false =>
        rw [hb] at h
        exact relabel_look (scope := scope) h
theorem relabel_vis {env : Env} {x : Str} : ∀ {names : List (Str × NameKind)}, names.lookup x = some .free →
    (names.map fun (p : Str × NameKind) => if (p.2 == NameKind.free && env.scope.kind == .function && env.kindOf p.1 == some .cell) = true then (p.1, NameKind.cell) else (p.1, p.2)).lookup x = some .cell ∨
    (names.map fun (p : Str × NameKind) => if (p.2 == NameKind.free && env.scope.kind == .function && env.kindOf p.1 == some .cell) = true then (p.1, NameKind.cell) else (p.1, p.2)).lookup x = some .free
  | [], h => by cases h
  | (n, k) :: r, h => by
    rw [List.lookup_cons] at h
    rw [List.map_cons, List.lookup_cons]
    by_cases hc : (k == NameKind.free && env.scope.kind == .function && env.kindOf n == some .cell) = true
    · rw [if_pos hc]
      cases hb : x == n with
      | true => exact .inl rfl
      | false =>
        rw [hb] at h
        exact relabel_vis h
    · rw [if_neg hc]
      cases hb : x == n with
      | true =>
        rw [hb] at h
        exact .inr h
      | false =>
        rw [hb] at h
        exact relabel_vis h
section
variable {X : Cx} {scope : Scope} {N' : List Str} {js : List (Option Nat)} {pins : List (Addr × Obj)} {σ : St} {H : Hp} {s : Shared} {fp : List Addr}
theorem inv_block (caps : Caps X scope N' js) (hkind : scope.kind = .function) (hfree : ∀ x ∈ scope.names, x.2 = .free → X.env.kindOf x.1 = some .cell ∨ X.env.kindOf x.1 = some .free)
    (I : Inv X pins σ H s) (hfp : ∀ b ∈ fp, FpOk X pins H b) (hfo : ∀ b ∈ fp, b < s.heap.objs.size) :
    Inv (cxComp X scope N' s H fp) [] (capSt σ js) H { s with heap := pushCells (s.heap.push { cls := .type "dict", data := .dict #[] }) scope.names } := by
  have keeps : ∀ b u, s.heap.get? b = some u → (pushCells (s.heap.push { cls := .type "dict", data := .dict #[] }) scope.names).get? b = some u := fun b u e => pushCells_keeps _ _ b u (Heap.get?_push_of_some _ e)
  have hlk : ∀ x, scope.names.lookup x = some .free → ∃ c, X.env.cells.lookup x = some c := fun x e => I.ok.has x (hfree (x, .free) (PySem.mem_of_lookup e) rfl)
  have clo : ∀ p ∈ closOf X.env scope.names [], X.env.cells.lookup p.1 = some p.2 := fun p hp => by
    rcases closOf_mem hp with z | ⟨z1, z2⟩
    · cases z
    · obtain ⟨c, e⟩ := I.ok.has p.1 (hfree (p.1, .free) z1 rfl)
      rw [z2, e]
      rfl
  have cls : ∀ x c, (cxComp X scope N' s H fp).env.cells.lookup x = some c → X.env.cells.lookup x = some c ∨ s.heap.objs.size + 1 ≤ c := fun x c e => by
    have m : (x, c) ∈ cellsFrom (s.heap.objs.size + 1) scope.names (closOf X.env scope.names []) := PySem.mem_of_lookup e
    rcases cellsFrom_old m with z | z
    · exact .inl (clo _ z)
    · exact .inr z
  have hsz : (s.heap.push { cls := .type "dict", data := .dict #[] }).objs.size = s.heap.objs.size + 1 := Heap.size_push ..
  have oldlt : ∀ x c, X.env.cells.lookup x = some c → c < s.heap.objs.size := fun x c e => by
    obtain ⟨v, z⟩ := I.cell x c e
    exact z.lt
  have cellsIs : ∀ p ∈ cellsFrom (s.heap.objs.size + 1) scope.names (closOf X.env scope.names []), ∃ v, (pushCells (s.heap.push { cls := .type "dict", data := .dict #[] }) scope.names).IsCell p.2 v := by
    rw [← hsz]
    refine cellsFrom_isCell fun p hp => ?_
    obtain ⟨v, z⟩ := I.cell _ _ (clo p hp)
    exact ⟨v, z.keeps fun b o e => Heap.get?_push_of_some _ e⟩
  have hinj : InjL (cellsFrom (s.heap.objs.size + 1) scope.names (closOf X.env scope.names [])) := by
    refine cellsFrom_inj (fun p hp => Nat.lt_succ_of_lt (oldlt _ _ (clo p hp))) fun p hp q hq e => ?_
    have e1 := clo p hp
    have e2 := clo q hq
    rw [← e] at e2
    exact I.ok.inj _ _ _ e1 e2
  refine ⟨⟨I.ok.mod, hkind, I.ok.glob, I.ok.blt, Nat.le_refl _, fun x y c h1 h2 => ?_, fun x hx => ?_, fun x c hf h => ?_, I.ok.hd, I.ok.frames, .inl rfl, fun b hb => ?_, I.bs, Nat.le_trans I.ok.bsz I.sz, fun b o e hb => ?_, fun b hb hf => ?_, I.stack, I.stkFree⟩,
    rfl, I.bare, Un.kept keeps, ⟨fun _ => none, (Heap.Ns.new s.heap (.type "dict")).keeps (pushCells_keeps _ _), fun i x v h1 h2 h3 => ?_⟩, fun x c h => ?_, I.hok.fresh (Nat.le_refl _), fun x c h => ?_, fun p hp => absurd (show p ∈ ([] : List (Addr × Obj)) from hp) (by simp), I.hok.kept keeps, ?_⟩
  · exact hinj (x, c) (PySem.mem_of_lookup h1) (y, c) (PySem.mem_of_lookup h2) rfl
  · have hx : (relabel scope X.env).names.lookup x = some .cell ∨ (relabel scope X.env).names.lookup x = some .free := hx
    have key : scope.names.lookup x = some .cell ∨ scope.names.lookup x = some .free := by
      rcases hx with hx | hx
      · obtain ⟨k, e, z⟩ := relabel_look (scope := scope) (env := X.env) hx
        rcases z with z | ⟨z, _⟩
        · exact .inl (by rw [e, z])
        · exact .inr (by rw [e, z])
      · obtain ⟨k, e, z⟩ := relabel_look (scope := scope) (env := X.env) hx
        rcases z with z | ⟨_, z⟩
        · exact .inr (by rw [e, z])
        · cases z
    have : ((cellsFrom (s.heap.objs.size + 1) scope.names (closOf X.env scope.names [])).lookup x).isSome = true := by
      rcases key with e | e
      · exact PySem.W.cellsFrom_some _ _ _ (.inl e)
      · exact PySem.W.cellsFrom_some _ _ _ (.inr (by rw [closOf_look e]; rfl))
    exact Option.isSome_iff_exists.mp this
  · have hf : scope.names.lookup x = some .cell := of_decide_eq_true hf
    exact Nat.le_of_succ_le (cellsFrom_new (lo := s.heap.objs.size + 1) (Nat.le_refl _) (.inl hf) h)
  · refine ⟨Nat.ne_of_lt (hfo b hb), fun x c h z => ?_⟩
    rcases cls x c h with e | e
    · exact (hfp b hb).2.2.2.2.1 x c e z
    · rw [z] at e
      exact absurd (hfo b hb) (Nat.not_lt.mpr (Nat.le_of_succ_le e))
  · rcases (hfp b hb).2.2.2.1 with z | z
    · exact I.ok.noex b o e z
    · exact absurd (Nat.lt_of_lt_of_le (Heap.lt_size e) I.ok.bsz) (Nat.not_lt.mpr z)
  · rcases List.mem_cons.mp (I.stkSub b hf) with z | z
    · exact (hfp b hb).2.1 z
    · exact (hfp b hb).2.2.1 z
  · obtain ⟨j, a1, a2, a3, a4⟩ := caps.get h1 h2
    have kx := hfree (x, .free) (PySem.mem_of_lookup a3) rfl
    obtain ⟨m, hn, hl⟩ := I.loc
    have vis : Vis X.env.scope x := by
      rcases kx with k | k
      · exact .inr (.inl k)
      · exact .inr (.inr k)
    obtain ⟨u, r, l⟩ := hl j x v a1 a2 vis
    refine ⟨u, r, .inr ⟨relabel_vis (env := X.env) a3, ?_⟩⟩
    rcases l with ⟨k, _⟩ | ⟨_, c, e, z⟩
    · rcases kx with k' | k'
      · rw [k] at k'; cases k'
      · rw [k] at k'; cases k'
    · refine ⟨c, ?_, z.keeps keeps⟩
      show (cellsFrom (s.heap.objs.size + 1) scope.names (closOf X.env scope.names [])).lookup x = some c
      rw [cellsFrom_other a4, closOf_look a3, e]
      rfl
  · exact cellsIs (x, c) (PySem.mem_of_lookup h)
  · rcases cls x c h with e | e
    · exact I.freeC x c e
    · exact I.hok.fresh (by omega)
  · show (capSt σ js).length = N'.length
    unfold capSt
    rw [List.length_map, caps.len]
theorem Inv.unblock {pins' : List (Addr × Obj)} {σ' : St} {H' : Hp} {s' : Shared} {h' : Heap} (I : Inv X pins σ H s) (hfp : ∀ b ∈ fp, FpOk X pins H b) (I' : Inv (cxComp X scope N' s H fp) pins' σ' H' s') (hs : Heap.SameBut s.heap.objs.size s'.heap h') :
    Inv X pins σ H' { s' with heap := h' } := by
  have ne : ∀ b o, s.heap.get? b = some o → b ≠ s.heap.objs.size := fun b o e => Nat.ne_of_lt (Heap.lt_size e)
  have u : Un (frs X.stack) fp H H' s.heap h' := by
    refine ⟨fun b o e n hb hx => (hs.2 b (ne b o e)).trans (I'.base.keep b o e n hb hx), fun b o e n hb hx => ?_, I'.base.free, fun b o e hx => ?_, I'.base.tups, I'.base.frzs, I'.base.tbls⟩
    · obtain ⟨sl, q⟩ := I'.base.slot b o e n hb hx
      exact ⟨sl, (hs.2 b (ne b o e)).trans q⟩
    · obtain ⟨o', q⟩ := I'.base.there b o e hx
      exact ⟨o', (hs.2 b (ne b o e)).trans q⟩
  have hf : H' s.heap.objs.size = none := I'.free
  have hok : HOk X.prog X.w H' h' := fun a o e => (I'.hok a o e).stay (fun c v hc q => (hs.2 c (by
    rintro rfl
    rcases hc with z | z
    · rw [← z, hf] at e; cases e
    · rw [hf] at z; cases z)).trans q) (fun _ q => q) fun _ _ q => q
  refine I.call' (s' := { s' with heap := h' }) (ch := fp) I'.os u hok I'.bare fun b hb => ?_
  obtain ⟨f0, f1, f2, f3, f4, f5⟩ := hfp b hb
  exact ⟨f3, f1, f4, f5⟩
def PIf (X : Cx) (ifs : List Expr) (t : TT) : Prop :=
  ∀ (pins : List (Addr × Obj)) (s : Shared) (σ : St) (H : Hp) (Q : Bool → Hp → Prop), Inv X pins σ H s → t σ H Q →
    wpAny (model X.prog X.w) X.A (forIn ifs true fun c r => if r = true then do let ok ← isTrue c X.env (eval c X.env); pure (ForInStep.yield ok) else pure (ForInStep.yield r)) (TP X pins σ Q) X.xe s
theorem pif_nil : PIf X [] (fun _ H Q => Q true H) := fun pins s σ H Q I h => by
  rw [List.forIn_nil]
  exact wpAny_pure ⟨H, I, h⟩
theorem pif_one {c : Expr} {tc : TT} (hc : PT X c tc) : PIf X [c] tc := fun pins s σ H Q I h => by
  rw [List.forIn_cons, if_pos rfl]
  refine wpAny_bind (wpAny_bind (thn (hc pins s σ H Q I h) fun b s1 q => wpAny_pure ?_))
  show wpAny _ _ (forIn ([] : List Expr) b _) _ _ s1
  rw [List.forIn_nil]
  exact wpAny_pure q
def lcTurn (J : It) (g : TG) (tc : TT) (te : TE) (Q : VK) (D : Addr) (W : Nat → Nat → St → List V → Hp → Prop) : Prop :=
  ∀ (i m : Nat) (σ1 : St) (acc : List V) (H : Hp), W i m σ1 acc H → (J.stop i H ∧ Q (.ref D) H) ∨
    (J.go i H ∧ ∃ N : St → List V → Hp → Prop, (∀ σ' acc' H', N σ' acc' H' → ∃ m', m' < m ∧ W (i + 1) m' σ' acc' H') ∧
      ∀ x H', J.yld i H x H' → g x σ1 H' fun σ2 H2 => tc σ2 H2 fun b H3 => if b = true then te σ2 H3 fun y H4 => H4 D = some (.lst acc) ∧ acc.length < sizeLine ∧ N σ2 (acc ++ [y]) (upd H4 D (.lst (acc ++ [y])))
        else N σ2 acc H3)
def tLC (js : List (Option Nat)) (wi : TI) (g : TG) (tc : TT) (te : TE) : TE := fun σ H Q => wi σ H fun J H1 => ∀ D, H1 D = none → ∃ W : Nat → Nat → St → List V → Hp → Prop, (∃ m, W 0 m (capSt σ js) [] (upd H1 D (.lst []))) ∧ lcTurn J g tc te Q D W
theorem block_run {elt tg iter : Expr} {ifs : List Expr} {pos : Pos} {g : TG} {tc : TT} {te : TE} {Q : VK} {R : Result → Shared → Prop} {it : Addr} {J : It} {tn : Nat → Heap → Prop} {D : Addr} {W : Nat → Nat → St → List V → Hp → Prop} {m0 : Nat} {σ0 : St} {s4 : Shared} {H4 : Hp}
    (hcalm : X.calm = true) (T : Turn X.prog X.w X.K tg J fp it tn)
    (hg : PG (cxComp X scope N' s H fp) tg g) (hc : PIf (cxComp X scope N' s H fp) ifs tc) (he : PE (cxComp X scope N' s H fp) elt te)
    (turn : lcTurn J g tc te Q D W)
    (I4 : Inv (cxComp X scope N' s H fp) [] σ0 H4 s4) (st4 : tn 0 s4.heap) (fr4 : ∀ b ∈ fp, H4 b = none) (w4 : W 0 m0 σ0 [] H4)
    (fin : ∀ σ' H' s', Inv (cxComp X scope N' s H fp) [] σ' H' s' → Q (.ref D) H' → R (.ok .next) s') :
    codeAny (model X.prog X.w) X.A (.compStart (.ListComp elt [⟨tg, iter, ifs, 0⟩] scope pos) 0 (.ref it) (.ref D) (cxComp X scope N' s H fp).env) R s4 := by
  have loop : codeAny (model X.prog X.w) X.A (.compLoop (.ListComp elt [⟨tg, iter, ifs, 0⟩] scope pos) 0 (.ref it) (.ref D) (cxComp X scope N' s H fp).env) R s4 := by
    have stat : ∀ {H' : Hp}, (∀ b ∈ fp, H' b = none) → ∀ b ∈ fp, FpOk (cxComp X scope N' s H fp) [] H' b := fun hn b hb =>
      ⟨hn b hb, (I4.ok.exf b hb).1, I4.ok.exfs b hb, .inl hb, (I4.ok.exf b hb).2, fun p hp => absurd (show p ∈ ([] : List (Addr × Obj)) from hp) (by simp)⟩
    refine codeAny_loop rfl (fun n s' => ∃ i σ' acc H', Inv (cxComp X scope N' s H fp) [] σ' H' s' ∧ tn i s'.heap ∧ (∀ b ∈ fp, H' b = none) ∧ W i n σ' acc H') ?_ m0 ⟨0, σ0, [], H4, I4, st4, fr4, w4⟩
    rintro n s5 ⟨i, σ5, acc, H5, I5, st5, fr5, w5⟩
    show wpAny _ X.A ((compTurn (.ListComp elt [⟨tg, iter, ifs, 0⟩] scope pos) 0 (.ref it) (.ref D) (cxComp X scope N' s H fp).env).onRaise (fun x => do noteFrame x (cxComp X scope N' s H fp).env; theTreesLotGoes x)) _ _ s5
    refine wpAny_noted ?_
    rw [compTurn_list]
    have ex : ∀ {E' : Value → Shared → Prop} (e : Value) (s' : Shared), (cxComp X scope N' s H fp).xe e s' → E' e s' := fun _ _ z => False.elim z
    rcases turn i n σ5 acc H5 w5 with ⟨stop, q⟩ | ⟨go, N, hN, step⟩
    · refine wpAny_bind (wpAny_standAt (wpAny_bind (thn (T.done (cxComp X scope N' s H fp) rfl rfl rfl hcalm i [] s5 σ5 H5 _ I5 (stat fr5) st5 stop) fun r s6 ⟨hr, I6⟩ => ?_)))
      subst hr
      exact wpAny_pure (fin σ5 H5 s6 I6 q)
    · refine wpAny_bind (wpAny_standAt (wpAny_bind (thn (T.item (cxComp X scope N' s H fp) rfl rfl rfl hcalm i [] s5 σ5 H5 _ I5 (stat fr5) st5 go) fun r s6 ⟨u, hr, h6⟩ => ?_)))
      subst hr
      refine wpAny_bind (thn h6 fun _ s7 ⟨x, H7, I7, r7, y7, st7, fr7⟩ => ?_)
      have I7' := I7.pinned (stat fr7) (T.obj _ _ st7)
      refine wpAny_bind (wpAny_mono (hg _ s7 σ5 H7 x u _ I7' r7 (step x H7 y7)) (fun _ s8 ⟨σ8, H8, I8, q8⟩ => ?_) ex)
      refine wpAny_bind (wpAny_mono (hc _ s8 σ8 H8 _ I8 q8) (fun ok s9 ⟨H9, I9, q9⟩ => ?_) ex)
      have again : ∀ {s' : Shared} {σ' : St} {H' : Hp} {acc' : List V}, Inv (cxComp X scope N' s H fp) ([] ++ pinsAt fp s7.heap) σ' H' s' → N σ' acc' H' →
          ∃ m, m < n ∧ ∃ i σ' acc H', Inv (cxComp X scope N' s H fp) [] σ' H' s' ∧ tn i s'.heap ∧ (∀ b ∈ fp, H' b = none) ∧ W i m σ' acc H' := fun {s' σ' H' acc'} J' n' => by
        obtain ⟨m', hm, w'⟩ := hN σ' acc' H' n'
        refine ⟨m', hm, i + 1, σ', acc', H', J'.unpinned, T.keep _ _ _ st7 fun b hb o e => (J'.pin (b, o) (List.mem_append_right _ (List.mem_append_right _ (mem_pinsAt hb e)))).1, fun b hb => ?_, w'⟩
        obtain ⟨o, e, d⟩ := T.obj _ _ st7 b hb
        exact (J'.pin (b, o) (List.mem_append_right _ (List.mem_append_right _ (mem_pinsAt hb e)))).2.1
      cases ok with
      | false =>
        rw [if_neg Bool.false_ne_true] at q9
        exact wpAny_pure ⟨rfl, again I9 q9⟩
      | true =>
        rw [if_pos rfl] at q9
        refine wpAny_bind (wpAny_bind (wpAny_mono (he _ s9 σ8 H9 _ I9 q9) (fun y s10 ⟨yv, H10, I10, r10, hD, hz, q10⟩ => ?_) ex))
        refine wpAny_bind (wpAny_mono (mt_append (X := cxComp X scope N' s H fp) _ s10 σ8 H10 (.ref D) [yv] (.ref D) [y] (fun _ H11 => N σ8 (acc ++ [yv]) H11) I10 rfl (.cons r10 .nil) ⟨D, acc, yv, rfl, rfl, hD, hz, q10⟩) (fun _ s11 ⟨_, H11, I11, _, q11⟩ => ?_) ex)
        exact wpAny_pure (wpAny_pure ⟨rfl, again I11 q11⟩)
  exact codeAny_compStart_list loop (T.self _ 0 _ _ _ st4 loop)
theorem free_of {scope : Scope} {env : Env} (h : (scope.names.all fun p => p.2 != NameKind.free || (env.scope.names.lookup p.1 == some .cell || env.scope.names.lookup p.1 == some .free)) = true) :
    ∀ x ∈ scope.names, x.2 = .free → env.kindOf x.1 = some .cell ∨ env.kindOf x.1 = some .free := fun x hx e => by
  have q := List.all_eq_true.mp h x hx
  rw [e] at q
  have q : (env.scope.names.lookup x.1 == some NameKind.cell || env.scope.names.lookup x.1 == some NameKind.free) = true := q
  rw [Bool.or_eq_true] at q
  rcases q with q | q
  · exact .inl (beq_iff_eq.mp q)
  · exact .inr (beq_iff_eq.mp q)
theorem local_of {scope : Scope} (h : (scope.names.all fun p => p.2 != NameKind.local || scope.names.lookup p.1 == some .local) = true) : ∀ x ∈ scope.names, x.2 = .local → scope.names.lookup x.1 = some .local := fun x hx e => by
  have q := List.all_eq_true.mp h x hx
  rw [e] at q
  have q : (scope.names.lookup x.1 == some NameKind.local) = true := q
  exact beq_iff_eq.mp q
variable {elt tg iter : Expr} {ifs : List Expr} {pos : Pos} {wi : TI} {g : TG} {tc : TT} {te : TE}
theorem pe_lcomp (hcalm : X.calm = true) (caps : Caps X scope N' js) (hi : PI X tg iter wi)
    (hg : ∀ s H fp, PG (cxComp X scope N' s H fp) tg g) (hc : ∀ s H fp, PIf (cxComp X scope N' s H fp) ifs tc) (he : ∀ s H fp, PE (cxComp X scope N' s H fp) elt te)
    (hfb : autoParam ((scope.names.all fun p => p.2 != NameKind.free || (X.env.scope.names.lookup p.1 == some .cell || X.env.scope.names.lookup p.1 == some .free)) = true) u5._auto_1)
    (hnb : autoParam ((scope.names.all fun p => p.2 != NameKind.local || scope.names.lookup p.1 == some .local) = true) u5._auto_1)
    (hkind : autoParam (scope.kind = .function) u5._auto_1)
    (hs : autoParam (∀ x, foldedSetIterable iter X.env x = pure x) u4._auto_1) : PE X (.ListComp elt [⟨tg, iter, ifs, 0⟩] scope pos) (tLC js wi g tc te) := by
  intro pins s σ H Q I h
  have hfree := free_of hfb
  have hnames := local_of hnb
  rw [eval_ListComp]
  refine wpAny_comprehension_free (use := none) (cl := closOf X.env scope.names []) rfl hs (closureFor_of fun x hx e => I.ok.has x.1 (hfree x hx e)) hkind hnames ?_
  refine thn (hi pins s σ H _ I h) fun v s1 h1 => thn h1 fun itv s2 h2 => ?_
  obtain ⟨it, fp, tn, J, H2, e, I2, T, st2, f2, q⟩ := h2
  subst e
  refine wpAny_newObj_type ?_
  have hD : H2 s2.heap.objs.size = none := I2.hok.fresh (Nat.le_refl _)
  have I3 : Inv X pins σ (upd H2 s2.heap.objs.size (.lst [])) { s2 with heap := s2.heap.push { cls := .type "list", data := .seq ([] : List Value).toArray } } := I2.lnew (t' := s2.toks) .nil (Nat.zero_le _)
  obtain ⟨W, ⟨m0, w0⟩, turn⟩ := q s2.heap.objs.size hD
  have fo : ∀ b ∈ fp, b < s2.heap.objs.size := fun b hb => by
    obtain ⟨o, e, _⟩ := T.obj _ _ st2 b hb
    exact Heap.lt_size e
  have f3 : ∀ b ∈ fp, FpOk X pins (upd H2 s2.heap.objs.size (.lst [])) b := fun b hb => ⟨by rw [upd_ne (Nat.ne_of_lt (fo b hb))]; exact (f2 b hb).1, (f2 b hb).2⟩
  have fo3 : ∀ b ∈ fp, b < (s2.heap.push { cls := .type "list", data := .seq ([] : List Value).toArray }).objs.size := fun b hb => by
    rw [Heap.size_push]
    exact Nat.lt_succ_of_lt (fo b hb)
  refine newEnv_block ?_
  have I4 := inv_block (fp := fp) caps hkind hfree I3 f3 fo3
  refine block_run (fp := fp) hcalm T (hg _ _ _) (hc _ _ _) (he _ _ _) turn I4 ?_ (fun b hb => (f3 b hb).1) w0 ?_
  · refine T.keep _ _ _ st2 fun b hb o e => ?_
    exact pushCells_keeps _ _ b o (Heap.get?_push_of_some _ (Heap.get?_push_of_some _ e))
  · intro σ' H' s' I' q'
    obtain ⟨m, hn, _⟩ := I'.loc
    exact ⟨m, hn, fun h' hs' => ⟨.ref s2.heap.objs.size, H', Inv.unblock I3 f3 I' hs', rfl, q'⟩⟩
theorem ps_setlc {i : Nat} {x : Str} {pos' spos : Pos} (hcalm : X.calm = true) (caps : Caps X scope N' js) (hi : PI X tg iter wi)
    (hg : ∀ s H fp, PG (cxComp X scope N' s H fp) tg g) (hc : ∀ s H fp, PIf (cxComp X scope N' s H fp) ifs tc) (he : ∀ s H fp, PE (cxComp X scope N' s H fp) elt te)
    (hN : X.N.Nodup) (hix : X.N[i]? = some x) (hx : Loc X.env.scope x)
    (hfb : autoParam ((scope.names.all fun p => p.2 != NameKind.free || (X.env.scope.names.lookup p.1 == some .cell || X.env.scope.names.lookup p.1 == some .free)) = true) u5._auto_1)
    (hnb : autoParam ((scope.names.all fun p => p.2 != NameKind.local || scope.names.lookup p.1 == some .local) = true) u5._auto_1)
    (hsw : autoParam (swapsWith (.ListComp elt [⟨tg, iter, ifs, 0⟩] scope pos) (some (.Name x pos')) spos.line X.env = pure true) u5._auto_1)
    (hkind : autoParam (scope.kind = .function) u5._auto_1) (hs : autoParam (∀ x, foldedSetIterable iter X.env x = pure x) u4._auto_1)
    (hf : autoParam (X.fn x = true ∨ X.env.scope.names.lookup x = some .local) u1._auto_1) :
    PS X (.Assign [.Name x pos'] (.ListComp elt [⟨tg, iter, ifs, 0⟩] scope pos) spos) (tAsg (tLC js wi g tc te) (gName i)) := by
  intro pins s σ H E I h
  have hfree := free_of hfb
  have hnames := local_of hnb
  rw [exec_Assign_Name_used _ _ _ _ hsw]
  refine wpAny_bind (wpAny_standAt (wpAny_bind ?_))
  show wpAny _ X.A (do let _ ← comprehension (.ListComp elt [⟨tg, iter, ifs, 0⟩] scope pos) scope X.env _ (newList []) false (eval iter X.env) (some (assign (.Name x pos') X.env))) _ _ s
  refine wpAny_bind (wpAny_mono (wpAny_comprehension_free (use := some (assign (.Name x pos') X.env)) (Q := fun _ s' => SP X pins E .next s') (cl := closOf X.env scope.names []) rfl hs (closureFor_of fun x hx e => I.ok.has x.1 (hfree x hx e)) hkind hnames ?_)
    (fun _ s' hq => wpAny_pure (wpAny_pure hq)) fun _ _ e => e)
  have h : tLC js wi g tc te σ H (fun x H1 => E.nx (σ.set i (some x)) H1) := h
  refine thn (hi pins s σ H _ I h) fun v s1 h1 => thn h1 fun itv s2 h2 => ?_
  obtain ⟨it, fp, tn, J, H2, e, I2, T, st2, f2, q⟩ := h2
  subst e
  refine wpAny_newObj_type ?_
  have hD : H2 s2.heap.objs.size = none := I2.hok.fresh (Nat.le_refl _)
  have I3 : Inv X pins σ (upd H2 s2.heap.objs.size (.lst [])) { s2 with heap := s2.heap.push { cls := .type "list", data := .seq ([] : List Value).toArray } } := I2.lnew (t' := s2.toks) .nil (Nat.zero_le _)
  obtain ⟨W, ⟨m0, w0⟩, turn⟩ := q s2.heap.objs.size hD
  have fo : ∀ b ∈ fp, b < s2.heap.objs.size := fun b hb => by
    obtain ⟨o, e, _⟩ := T.obj _ _ st2 b hb
    exact Heap.lt_size e
  have f3 : ∀ b ∈ fp, FpOk X pins (upd H2 s2.heap.objs.size (.lst [])) b := fun b hb => ⟨by rw [upd_ne (Nat.ne_of_lt (fo b hb))]; exact (f2 b hb).1, (f2 b hb).2⟩
  have fo3 : ∀ b ∈ fp, b < (s2.heap.push { cls := .type "list", data := .seq ([] : List Value).toArray }).objs.size := fun b hb => by
    rw [Heap.size_push]
    exact Nat.lt_succ_of_lt (fo b hb)
  refine newEnv_block ?_
  have I4 := inv_block (fp := fp) caps hkind hfree I3 f3 fo3
  refine block_run (fp := fp) hcalm T (hg _ _ _) (hc _ _ _) (he _ _ _) turn I4 ?_ (fun b hb => (f3 b hb).1) w0 ?_
  · refine T.keep _ _ _ st2 fun b hb o e => ?_
    exact pushCells_keeps _ _ b o (Heap.get?_push_of_some _ (Heap.get?_push_of_some _ e))
  · intro σ' H' s' I' q'
    have I5 : Inv X pins σ H' s' := Inv.unblock I3 f3 I' (Heap.SameBut.refl ..)
    obtain ⟨m, hn, _⟩ := I'.loc
    show wpAny _ X.A (assign (.Name x pos') X.env (.ref s2.heap.objs.size)) _ _ s'
    refine wpAny_assign_Name (store_ok2 I5 hN hix hx (v := .ref s2.heap.objs.size) rfl (fun s6 I6 ⟨a, hsa, ha⟩ => ?_) hf)
    have lt : ∀ b, b < s2.heap.objs.size + 1 → b ≠ (s2.heap.push { cls := .type "list", data := .seq ([] : List Value).toArray }).objs.size := fun b hb => by
      rw [Heap.size_push]
      exact Nat.ne_of_lt hb
    have hLs : X.env.locals < s2.heap.objs.size := I2.lt
    have hcs : ∀ y c, X.env.cells.lookup y = some c → c < s2.heap.objs.size := fun y c e => by
      obtain ⟨v, z⟩ := I2.cell y c e
      exact z.lt
    have hne : (s2.heap.push { cls := .type "list", data := .seq ([] : List Value).toArray }).objs.size ≠ a := by
      rcases ha with z | z
      · rw [z]; exact (lt _ (Nat.lt_succ_of_lt hLs)).symm
      · exact (lt _ (Nat.lt_succ_of_lt (hcs _ _ z))).symm
    refine ⟨m, hn.sameBut hsa hne, fun h' hs' => ⟨_, H', ?_, q'⟩⟩
    refine I6.turned (t' := s6.toks) (it := (s2.heap.push { cls := .type "list", data := .seq ([] : List Value).toArray }).objs.size) (fun b o hb e => (hs'.2 b hb).trans e) I'.free ?_ (.inr ?_) (fun y c e => ?_) (fun p hp z => ?_)
    · exact (lt _ (Nat.lt_succ_of_lt hLs)).symm
    · exact I3.sz
    · exact lt _ (Nat.lt_succ_of_lt (hcs y c e))
    · exact absurd (Heap.lt_size (I3.pin p hp).1) (by rw [z]; exact Nat.lt_irrefl _)
end
theorem lc_range {lo : Int} {n : Nat} {g : TG} {tc : TT} {te : TE} {Q : VK} {D : Addr} {σ : St} {H : Hp} (Pv : Nat → St → List V → Hp → Prop) (h0 : Pv 0 σ [] H)
    (hs : ∀ i σ acc H, i < n → Pv i σ acc H → g (.int (lo + i)) σ H fun σ2 H2 => tc σ2 H2 fun b H3 => if b = true then te σ2 H3 fun y H4 => H4 D = some (.lst acc) ∧ acc.length < sizeLine ∧ Pv (i + 1) σ2 (acc ++ [y]) (upd H4 D (.lst (acc ++ [y]))) else Pv (i + 1) σ2 acc H3)
    (hd : ∀ σ acc H, Pv n σ acc H → Q (.ref D) H) :
    ∃ W : Nat → Nat → St → List V → Hp → Prop, (∃ m, W 0 m σ [] H) ∧ lcTurn (Itr lo n) g tc te Q D W := by
  refine ⟨fun i m σ acc H => m = n - i ∧ i ≤ n ∧ Pv i σ acc H, ⟨n, by simp, Nat.zero_le _, h0⟩, ?_⟩
  rintro i m σ acc H ⟨rfl, hi, p⟩
  by_cases hlt : i < n
  · refine .inr ⟨hlt, Pv (i + 1), fun σ' acc' H' p' => ⟨n - (i + 1), by omega, rfl, hlt, p'⟩, fun x H' y => ?_⟩
    obtain ⟨e, y⟩ := y
    subst e y
    exact hs i σ acc _ hlt p
  · have e : i = n := by omega
    subst e
    exact .inl ⟨Nat.le_refl _, hd σ acc H p⟩
end L2
set_option Elab.async false
set_option linter.all false
set_option maxRecDepth 100000
namespace L2
open PySem PySem.Spec PyProof.Rows
def scrD (ns : List Int) : PyData := .dict (ns.map fun n => (.int n, .none))
def anyD : PyData := .dict [(.bool true, .none)]
def excD (C : Addr) : PyData := .dict [(.bool false, .int (C : Int))]
def xPhi (a C : Addr) : Heap → Prop := fun h => ∃ o, h.get? a = some o ∧ o.cls = .ref C
def anyK : List (PyData × PyData) → Bool
  | [(.bool true, _)] => true
  | _ => false
theorem anyK_scr : ∀ ns : List Int, anyK (ns.map fun n => (PyData.int n, PyData.none)) = false
  | [] => rfl
  | [_] => rfl
  | _ :: _ :: _ => rfl
mutual
inductive Rp (K : PySem.W.Frag) (H : Hp) : V → PyData → Prop where
  | non : Rp K H .non .none
  | bl (b : Bool) : Rp K H (.bl b) (.bool b)
  | int (i : Int) : Rp K H (.int i) (.int i)
  | str (x : Str) : Rp K H (.str x) (.str x)
  | lst {a : Addr} {xs : List V} {ds : List PyData} : H a = some (.lst xs) → RpAll K H xs ds → Rp K H (.ref a) (.list ds)
  | tup {a : Addr} {xs : List V} {ds : List PyData} : H a = some (.tup xs) → RpAll K H xs ds → Rp K H (.ref a) (.tuple ds)
  | scr {a : Addr} {ns : List Int} : SqL K H a (ns.map V.int) → Rp K H (.ref a) (scrD ns)
  | any {a : Addr} : Rp K H (.ref a) anyD
  | xc {a C : Addr} : H a = some (.ext (xPhi a C)) → Rp K H (.ref a) (excD C)
inductive RpAll (K : PySem.W.Frag) (H : Hp) : List V → List PyData → Prop where
  | nil : RpAll K H [] []
  | cons {x : V} {xs : List V} {d : PyData} {ds : List PyData} : Rp K H x d → RpAll K H xs ds → RpAll K H (x :: xs) (d :: ds)
end
mutual
def immD : PyData → Bool
  | .list _ => false
  | .dict kvs => anyK kvs
  | .tuple ds => immAll ds
  | _ => true
def immAll : List PyData → Bool
  | [] => true
  | d :: ds => immD d && immAll ds
end
structure TK (H H' : Hp) : Prop where
  tup : ∀ b xs, H b = some (.tup xs) → H' b = some (.tup xs)
  frz : ∀ b o u, H b = some (.frz o u) → H' b = some (.frz o u)
theorem TK.trans {H H1 H2 : Hp} (a : TK H H1) (b : TK H1 H2) : TK H H2 := ⟨fun c xs h => b.tup c xs (a.tup c xs h), fun c o u h => b.frz c o u (a.frz c o u h)⟩
theorem Same.tk {H H' : Hp} (s : Same H H') : TK H H' := ⟨fun b xs h => s b _ h, fun b o u h => s b _ h⟩
theorem TK.new {H : Hp} {p : Addr} {o : HO} (h : H p = none) : TK H (upd H p o) := ⟨fun b xs e => by rw [upd_ne (ne_of_none e h)]; exact e, fun b o u e => by rw [upd_ne (ne_of_none e h)]; exact e⟩
theorem TK.lst {H : Hp} {p : Addr} {xs : List V} {o : HO} (h : H p = some (.lst xs)) : TK H (upd H p o) :=
  ⟨fun b ys e => by rw [upd_ne (ne_of e h (by intro z; cases z))]; exact e, fun b o u e => by rw [upd_ne (ne_of e h (by intro z; cases z))]; exact e⟩
theorem TK.sqT {K : PySem.W.Frag} {H H' : Hp} {a : Addr} {xs : List V} (t : TK H H') (h : SqT K H a xs) : SqT K H' a xs := by
  rcases h with (h | ⟨o, h⟩) | h
  · exact .inl (.inl (t.tup _ _ h))
  · exact .inl (.inr ⟨o, t.frz _ _ _ h⟩)
  · exact .inr h
theorem Same.new {H : Hp} {p : Addr} {o : HO} (h : H p = none) : Same H (upd H p o) := fun b u e => by rw [upd_ne (ne_of_none e h)]; exact e
theorem Same.put {H0 H : Hp} {p : Addr} {o : HO} (s : Same H0 H) (h : H0 p = none) : Same H0 (upd H p o) := fun b u e => by rw [upd_ne (ne_of_none e h)]; exact s b u e
mutual
theorem Rp.keep {K : PySem.W.Frag} {H H' : Hp} (t : TK H H') : ∀ {v : V} {d : PyData}, Rp K H v d → immD d = true → Rp K H' v d
  | _, _, .non, _ => .non
  | _, _, .bl b, _ => .bl b
  | _, _, .int i, _ => .int i
  | _, _, .str x, _ => .str x
  | _, _, .lst _ _, h => absurd (show false = true from h) Bool.false_ne_true
  | _, _, .tup hs ha, h => .tup (t.tup _ _ hs) (RpAll.keep t ha h)
  | _, _, @Rp.scr _ _ _ ns _, h => absurd (show anyK (ns.map fun n => (PyData.int n, PyData.none)) = true from h) (by rw [anyK_scr]; exact Bool.false_ne_true)
  | _, _, .any, _ => .any
theorem RpAll.keep {K : PySem.W.Frag} {H H' : Hp} (t : TK H H') : ∀ {vs : List V} {ds : List PyData}, RpAll K H vs ds → immAll ds = true → RpAll K H' vs ds
  | _, _, .nil, _ => .nil
  | _, _, .cons a b, h => by
    have h : _ ∧ _ := Bool.and_eq_true_iff.mp h
    exact .cons (Rp.keep t a h.1) (RpAll.keep t b h.2)
end
mutual
theorem Rp.same {K : PySem.W.Frag} {H H' : Hp} (t : Same H H') : ∀ {v : V} {d : PyData}, Rp K H v d → Rp K H' v d
  | _, _, .non => .non
  | _, _, .bl b => .bl b
  | _, _, .int i => .int i
  | _, _, .str x => .str x
  | _, _, .lst hs ha => .lst (t _ _ hs) (RpAll.same t ha)
  | _, _, .tup hs ha => .tup (t _ _ hs) (RpAll.same t ha)
  | _, _, .scr h => .scr (Same.seq t h)
  | _, _, .any => .any
  | _, _, .xc h => .xc (t _ _ h)
theorem RpAll.same {K : PySem.W.Frag} {H H' : Hp} (t : Same H H') : ∀ {vs : List V} {ds : List PyData}, RpAll K H vs ds → RpAll K H' vs ds
  | _, _, .nil => .nil
  | _, _, .cons a b => .cons (Rp.same t a) (RpAll.same t b)
end
theorem Rp.int_inv {K : PySem.W.Frag} {H : Hp} {v : V} {i : Int} (h : Rp K H v (.int i)) : v = .int i := by cases h; rfl
theorem Rp.bl_inv {K : PySem.W.Frag} {H : Hp} {v : V} {b : Bool} (h : Rp K H v (.bool b)) : v = .bl b := by cases h; rfl
theorem Rp.tup_inv {K : PySem.W.Frag} {H : Hp} {v : V} {ds : List PyData} (h : Rp K H v (.tuple ds)) : ∃ a xs, v = .ref a ∧ H a = some (.tup xs) ∧ RpAll K H xs ds := by
  cases h with | tup a b => exact ⟨_, _, rfl, a, b⟩
theorem Rp.lst_inv {K : PySem.W.Frag} {H : Hp} {v : V} {ds : List PyData} (h : Rp K H v (.list ds)) : ∃ a xs, v = .ref a ∧ H a = some (.lst xs) ∧ RpAll K H xs ds := by
  cases h with | lst a b => exact ⟨_, _, rfl, a, b⟩
theorem RpAll.len {K : PySem.W.Frag} {H : Hp} : ∀ {vs : List V} {ds : List PyData}, RpAll K H vs ds → vs.length = ds.length
  | _, _, .nil => rfl
  | _, _, .cons _ b => congrArg (· + 1) b.len
theorem RpAll.get {K : PySem.W.Frag} {H : Hp} : ∀ {vs : List V} {ds : List PyData} {i : Nat} {v : V}, RpAll K H vs ds → vs[i]? = some v → ∃ d, ds[i]? = some d ∧ Rp K H v d
  | _, _, _, _, .nil, e => by simp at e
  | _, _, 0, _, .cons a _, e => by simp at e; subst e; exact ⟨_, rfl, a⟩
  | _, _, i + 1, v, .cons _ b, e => by
    obtain ⟨d, h1, h2⟩ := RpAll.get (i := i) (v := v) b (by simpa using e)
    exact ⟨d, by simpa using h1, h2⟩
theorem RpAll.get' {K : PySem.W.Frag} {H : Hp} : ∀ {vs : List V} {ds : List PyData} {i : Nat} {d : PyData}, RpAll K H vs ds → ds[i]? = some d → ∃ v, vs[i]? = some v ∧ Rp K H v d
  | _, _, _, _, .nil, e => by simp at e
  | _, _, 0, _, .cons a _, e => by simp at e; subst e; exact ⟨_, rfl, a⟩
  | _, _, i + 1, d, .cons _ b, e => by
    obtain ⟨v, h1, h2⟩ := RpAll.get' (i := i) (d := d) b (by simpa using e)
    exact ⟨v, by simpa using h1, h2⟩
theorem RpAll.append {K : PySem.W.Frag} {H : Hp} : ∀ {vs ws : List V} {ds es : List PyData}, RpAll K H vs ds → RpAll K H ws es → RpAll K H (vs ++ ws) (ds ++ es)
  | _, _, _, _, .nil, h => h
  | _, _, _, _, .cons a b, h => .cons a (b.append h)
theorem RpAll.one {K : PySem.W.Frag} {H : Hp} {v : V} {d : PyData} (h : Rp K H v d) : RpAll K H [v] [d] := .cons h .nil
theorem RpAll.take {K : PySem.W.Frag} {H : Hp} : ∀ {vs : List V} {ds : List PyData} (n : Nat), RpAll K H vs ds → RpAll K H (vs.take n) (ds.take n)
  | _, _, 0, _ => .nil
  | _, _, _ + 1, .nil => .nil
  | _, _, n + 1, .cons a b => .cons a (b.take n)
theorem RpAll.drop {K : PySem.W.Frag} {H : Hp} : ∀ {vs : List V} {ds : List PyData} (n : Nat), RpAll K H vs ds → RpAll K H (vs.drop n) (ds.drop n)
  | _, _, 0, h => h
  | _, _, _ + 1, .nil => .nil
  | _, _, n + 1, .cons _ b => b.drop n
theorem RpAll.ints {K : PySem.W.Frag} {H : Hp} : ∀ (ns : List Int), RpAll K H (ns.map V.int) (ns.map PyData.int)
  | [] => .nil
  | n :: ns => .cons (.int n) (RpAll.ints ns)
theorem RpAll.ints_inv {K : PySem.W.Frag} {H : Hp} : ∀ {ns : List Int} {vs : List V}, RpAll K H vs (ns.map PyData.int) → vs = ns.map V.int
  | [], _, h => by cases h; rfl
  | n :: ns, _, h => by
    cases h with
    | cons a b => rw [a.int_inv, RpAll.ints_inv b]; rfl
theorem RpAll.bools_inv {K : PySem.W.Frag} {H : Hp} : ∀ {bs : List Bool} {vs : List V}, RpAll K H vs (bs.map PyData.bool) → vs = bs.map V.bl
  | [], _, h => by cases h; rfl
  | n :: ns, _, h => by
    cases h with
    | cons a b => rw [a.bl_inv, RpAll.bools_inv b]; rfl
theorem layAll_ints : ∀ (ns : List Int), PyData.canLayAll0 (ns.map PyData.int) = true
  | [] => rfl
  | n :: ns => by
    show (PyData.canLay0 (.int n) && PyData.canLayAll0 (ns.map PyData.int)) = true
    rw [layAll_ints ns]; rfl
section
variable {X : Cx} {pins : List (Addr × Obj)} {σ : St} {H : Hp} {s : Shared}
mutual
theorem Inv.reads (I : Inv X pins σ H s) : ∀ {x : V} {d : PyData} {v : Value}, Rp X.K H x d → RelV x v → d.canLay0 = true → ∃ as, Reads s.heap v d as
  | _, _, _, .non, r, _ => ⟨[], by cases r; exact .none⟩
  | _, _, _, .bl b, r, _ => ⟨[], by cases r; exact .bool b⟩
  | _, _, _, .int i, r, _ => ⟨[], by obtain ⟨t, e⟩ := r; cases e; exact .int i t⟩
  | _, _, _, .str x, r, _ => ⟨[], by obtain ⟨t, e⟩ := r; cases e; exact .str x t⟩
  | _, _, _, .scr _, _, h => absurd (show false = true from h) Bool.false_ne_true
  | _, _, _, .any, _, h => absurd (show false = true from h) Bool.false_ne_true
  | _, _, _, .lst hq ha, r, hl => by
    cases r
    obtain ⟨its, rv, ⟨o, n, e, c, dd, dt⟩, hz⟩ := I.list (SqL.of hq)
    obtain ⟨as, z⟩ := Inv.readsAll I ha rv hl
    exact ⟨_, .list e c dt z⟩
  | _, _, _, .tup hq ha, r, hl => by
    cases r
    obtain ⟨its, rv, ⟨o, e, c, n, dt⟩, hz⟩ := I.tuple (SqT.of hq)
    obtain ⟨as, z⟩ := Inv.readsAll I ha rv hl
    exact ⟨_, .tuple e c dt z⟩
theorem Inv.readsAll (I : Inv X pins σ H s) : ∀ {xs : List V} {ds : List PyData} {us : List Value}, RpAll X.K H xs ds → Vals xs us → PyData.canLayAll0 ds = true → ∃ as, ReadsAll s.heap us ds as
  | _, _, _, .nil, .nil, _ => ⟨[], .nil⟩
  | _, _, _, .cons a b, .cons r t, h => by
    have h : _ ∧ _ := Bool.and_eq_true_iff.mp h
    obtain ⟨as, z⟩ := Inv.reads I a r h.1
    obtain ⟨bs, y⟩ := Inv.readsAll I b t h.2
    exact ⟨_, .cons z y⟩
end
def rEqD (K : PySem.W.Frag) (u : Nat) : R2 := fun x y H Q => ∃ dx dy, Rp K H x dx ∧ Rp K H y dy ∧ dx.canLay0 = true ∧ dy.canLay0 = true ∧ u + min dx.depth dy.depth < cLine ∧ Q (.bl (PyData.eqv dx dy)) H
theorem op_eqD : OpR X (compareOp .Eq) (rEqD X.K X.A.units) := by
  intro pins s σ H x y v u Q I rx ry h
  obtain ⟨dx, dy, h1, h2, l1, l2, hu, q⟩ := h
  obtain ⟨as, ra⟩ := I.reads h1 rx l1
  obtain ⟨bs, rb⟩ := I.reads h2 ry l2
  exact SeqAt.rcAt_reads ra rb l1 l2 hu _ _ _ _ ⟨.bl _, H, I, rfl, q⟩
noncomputable def eqR (h : Heap) (dx : PyData) (w : Value) : Bool := @decide (∃ d as, Reads h w d as ∧ d.canLay0 = true ∧ PyData.eqv d dx = true) (Classical.propDecidable _)
theorem eqR_of {h : Heap} {dx d : PyData} {w : Value} {as : List Addr} (r : Reads h w d as) (l : d.canLay0 = true) : eqR h dx w = PyData.eqv d dx := by
  unfold eqR
  by_cases e : PyData.eqv d dx = true
  · rw [e]
    exact @decide_eq_true _ (Classical.propDecidable _) ⟨d, as, r, l, e⟩
  · rw [Bool.eq_false_iff.mpr e]
    refine @decide_eq_false _ (Classical.propDecidable _) ?_
    rintro ⟨d', as', r', l', e'⟩
    rw [SeqAt.Reads.unique d' d w as' as l' r' r] at e'
    exact e e'
theorem any_eqR {h : Heap} {dx : PyData} : ∀ {us : List Value} {ds : List PyData} {as : List Addr}, ReadsAll h us ds as → PyData.canLayAll0 ds = true → us.any (eqR h dx) = ds.any fun d => PyData.eqv d dx
  | [], [], _, _, _ => rfl
  | u :: us, d :: ds, _, r, l => by
    have l : d.canLay0 = true ∧ PyData.canLayAll0 ds = true := by simpa [PyData.canLayAll0] using l
    cases r with
    | cons r1 r2 => rw [List.any_cons, List.any_cons, eqR_of r1 l.1, any_eqR r2 l.2]
  | [], _ :: _, _, r, _ => by cases r
  | _ :: _, [], _, r, _ => by cases r
theorem mem_eqR {A : Around} {dx : PyData} {v : Value} {as : List Addr} (rx : Reads s.heap v dx as) (lx : dx.canLay0 = true) (hu : A.units + dx.depth < cLine) : ∀ {us : List Value} {ds : List PyData} {bs : List Addr}, ReadsAll s.heap us ds bs → PyData.canLayAll0 ds = true →
    ∀ u ∈ us, SeqAt.EqAt A s u v (eqR s.heap dx u)
  | [], _, _, _, _, u, hm => by cases hm
  | w :: us, d :: ds, _, r, l, u, hm => by
    have l : d.canLay0 = true ∧ PyData.canLayAll0 ds = true := by simpa [PyData.canLayAll0] using l
    cases r with
    | cons r1 r2 =>
      rcases List.mem_cons.mp hm with rfl | hm
      · rw [eqR_of r1 l.1]
        refine SeqAt.eqAt_reads d dx A s _ _ _ _ r1 rx l.1 lx ?_
        have : min d.depth dx.depth ≤ dx.depth := Nat.min_le_right _ _
        omega
      · exact mem_eqR rx lx hu r2 l.2 u hm
  | _ :: _, [], _, r, _, _, _ => by cases r
def rInD (K : PySem.W.Frag) (u : Nat) : R2 := fun x y H Q => ∃ p xs ds dx, y = .ref p ∧ (SqL K H p xs ∨ SqT K H p xs) ∧ RpAll K H xs ds ∧ Rp K H x dx ∧ PyData.canLayAll0 ds = true ∧ dx.canLay0 = true ∧ u + 1 + dx.depth < cLine ∧ Q (.bl (ds.any fun d => PyData.eqv d dx)) H
theorem op_inD : OpR X (compareOp .In) (rInD X.K X.A.units) := by
  intro pins s σ H x y v u Q I rx ry h
  obtain ⟨p, xs, ds, dx, rfl, hq, ha, hx, l1, l2, hu, q⟩ := h
  cases ry
  obtain ⟨as, ra⟩ := I.reads hx rx l2
  have hu1 : X.A.in1.units + dx.depth < cLine := hu
  rcases hq with hq | hq
  · obtain ⟨its, r, pl, hz⟩ := I.list hq
    obtain ⟨bs, rb⟩ := I.readsAll ha r l1
    refine SeqAt.in_listAt (eqR s.heap dx) pl.isList (fun w hw => mem_eqR ra l2 hu1 rb l1 w (by simpa using hw)) ⟨.bl _, H, I, rfl, ?_⟩
    rw [show its.toArray.any (eqR s.heap dx) = its.any (eqR s.heap dx) by simp, any_eqR rb l1]
    exact q
  · obtain ⟨its, r, pl, hz⟩ := I.tuple hq
    obtain ⟨bs, rb⟩ := I.readsAll ha r l1
    refine SeqAt.in_tupleAt (eqR s.heap dx) pl (fun w hw => mem_eqR ra l2 hu1 rb l1 w (by simpa using hw)) ⟨.bl _, H, I, rfl, ?_⟩
    rw [show its.toArray.any (eqR s.heap dx) = its.any (eqR s.heap dx) by simp, any_eqR rb l1]
    exact q
def tRng1 (ta : TA) : TE := fun σ H Q => ta σ H fun vs H1 => ∃ j : Int, vs = [.int j] ∧ ∀ p, H1 p = none → Q (.ref p) (upd H1 p (.rng 0 j))
theorem pe_range1 {a : Expr} {ta : TA} {p pos : Pos} (hg : Gl X "range") (hm : X.mg "range" = none) (ha : PA X [a] ta) (hs : autoParam (starEach [a] X.env = [(false, eval a X.env)]) u5._auto_1) : PE X (.Call (.Name "range" p) [a] [] pos) (tRng1 ta) := by
  intro pins s σ H Q I h
  refine wpAny_Call_Name_kw (ld_blt I hg hm boot_range (PyProof.Rows.callWith_type1 (thn (ha pos pins s σ H _ I h) fun us s1 ⟨vs, H1, I1, r1, q1⟩ => ?_) hs rfl))
  obtain ⟨j, e, q⟩ := q1
  subst e
  cases r1 with
  | cons r rr =>
    cases rr
    obtain ⟨t, rfl⟩ := r
    refine call_range_1 ⟨.ref s1.heap.objs.size, _, ?_, rfl, q _ (I1.hok.fresh (Nat.le_refl _))⟩
    exact I1.laid (fun b o e => Heap.get?_push_of_some _ e) (Nat.le_refl _) ⟨_, _, _, Heap.get?_push_size _ rfl⟩
def rangeV (lo : Int) (n : Nat) : List V := (List.range n).map fun (i : Nat) => V.int (lo + (i : Int))
theorem vals_items {P : Nat → Value → Prop} : ∀ {n : Nat} {us : List Value} (f : Nat → V), us.length = n → (∀ j v, us[j]? = some v → RelV (f j) v) → Vals ((List.range n).map f) us
  | n, us, f, hl, h => by
    induction us generalizing n f with
    | nil =>
      have : n = 0 := by simpa using hl.symm
      subst this
      exact .nil
    | cons u us ih =>
      obtain ⟨k, rfl⟩ : ∃ k, n = k + 1 := ⟨us.length, by simpa using hl.symm⟩
      rw [List.range_succ_eq_map, List.map_cons, List.map_map]
      exact .cons (h 0 u rfl) (ih k (fun j => f (j + 1)) (by simpa using hl) fun j v e => h (j + 1) v (by simpa using e))
theorem call_list_rng (hc : X.calm = true) : CallR X (.type "list") (fun xs H Q => ∃ p lo hi, xs = [.ref p] ∧ H p = some (.rng lo hi) ∧ (-(2 ^ 62) ≤ lo ∧ lo < 2 ^ 62 ∧ -(2 ^ 62) ≤ hi ∧ hi < 2 ^ 62) ∧ (hi - lo).toNat ≤ sizeLine ∧ ∀ l, H l = none → Q (.ref l) (upd H l (.lst (rangeV lo (hi - lo).toNat)))) := by
  intro pins s σ H xs us Q I r h
  obtain ⟨p, lo, hi, rfl, hp, ⟨b1, b2, b3, b4⟩, hz, q⟩ := h
  obtain ⟨u, rfl, rx⟩ := vals1 r
  cases rx
  obtain ⟨t, u, v, e⟩ := (show ∃ t u v, s.heap.get? p = some { cls := .type "range", data := .fields #[.int lo t, .int hi u, .int 1 v] } from I.hok p _ hp)
  have hn : Builtin.Range.rangeSize lo hi 1 = (((hi - lo).toNat : Nat) : Int) := by rw [rangeSize_one]; split <;> omega
  refine call_list_range (n := (hi - lo).toNat) (I.ok.hd hc) e (small_one b1 b2 b3 b4) hn (by rw [sizeLine_eq] at hz; omega) fun h' tk acc' c' kp e' hit => ?_
  refine ⟨.ref s.heap.objs.size, _, I.laid (t' := tk) kp (Nat.le_refl _) (show ObjOk X.prog X.w _ h' _ (.lst (rangeV lo (hi - lo).toNat)) from ⟨?_, acc'.toList, c', ?_, ?_⟩), rfl, q _ (I.hok.fresh (Nat.le_refl _))⟩
  · unfold rangeV
    rw [List.length_map, List.length_range]
    exact hz
  · refine vals_items (P := fun _ _ => True) (us := acc'.toList) (fun i => V.int (lo + (i : Int))) (by rw [Array.length_toList]; exact hit.1) fun j v hj => ?_
    obtain ⟨t', ev⟩ := hit.2 j v (by rw [← Array.getElem?_toList]; exact hj)
    exact ⟨t', by rw [ev, Int.mul_one]⟩
  · simpa using e'
def rCatA : R2 := fun x y H Q => ∃ a b xs ys, x = .ref a ∧ y = .ref b ∧ H a = some (.tup xs) ∧ H b = some (.tup ys) ∧ xs.length + ys.length ≤ sizeLine ∧ ∀ p H', Same H H' → H' p = some (.tup (xs ++ ys)) → Q (.ref p) H'
theorem cat_nil {prog : Program} {w : World} {A : Around} {E : Value → Shared → Prop} {s : Shared} {t b : Addr} {vs ws : List Value} {Q : Value → Shared → Prop} (ht : IsTup s.heap t vs.toArray) (hb : IsTup s.heap b ws.toArray) (hv : vs = []) (h1 : Q (.ref b) s) :
    wpAny (model prog w) A (binaryOp .Add (.ref t) (.ref b)) Q E s := by
  obtain ⟨⟨cls, dd, data, sl⟩, ho, hc, n, hd⟩ := id ht
  obtain ⟨⟨cls2, dd2, data2, sl2⟩, ho2, hc2, n2, hd2⟩ := id hb
  simp only at hc hd hc2 hd2
  subst hc hd hc2 hd2
  exact concat_meets ⟨_, ho, rfl⟩ ⟨_, ho2, rfl⟩ noFill_tuple_add seq_tuple_add PySem.F.slot_tuple_add PySem.F.entry_tuple_add (PySem.F.args_tuple_add_2 _ _)
      (tuple_addW0 t b vs.toArray ws.toArray n n2 dd dd2 sl sl2 (by simp [hv])) ⟨ho, ho2, h1⟩
theorem op_catA : OpR X (binaryOp .Add) rCatA := by
  intro pins s σ H x y v u Q I rx ry h
  obtain ⟨a, b, xs, ys, rfl, rfl, ha, hb, hz, q⟩ := h
  by_cases hx : xs = []
  · subst hx
    cases rx
    cases ry
    obtain ⟨its, r1, p1, _⟩ := I.tuple (SqT.of (K := X.K) ha)
    obtain ⟨its2, r2, p2, _⟩ := I.tuple (SqT.of (K := X.K) hb)
    exact cat_nil p1 p2 (r1.nil_iff.mpr rfl) ⟨.ref b, H, I, rfl, q b H (Same.refl H) hb⟩
  · refine op_catT pins s σ H _ _ v u Q I rx ry ⟨a, b, xs, ys, rfl, rfl, SqT.of ha, SqT.of hb, hx, hz, fun e => ?_, fun _ p hp => ?_⟩
    · subst e
      exact q a H (Same.refl H) (by rw [List.append_nil]; exact ha)
    · exact q p _ (Same.new hp) upd_same
end
def Fn (P : Program) (w : World) (K : PySem.W.Frag) (mg : Str → Option Value) (base : Heap) (x : Str) (lvl : Nat) (ps : List Str) (sp : Sp) : Prop :=
  ∃ f fd, FnOk P w K mg base CX0 lvl f fd ps sp ∧ mg x = some (.ref f) ∧ PySem.W.keepIn K (.ref f) = true ∧ Binds K fd ps []
section
variable {X : Cx} {x : Str} {lvl : Nat} {ps : List Str} {sp : Sp} {e : Expr} {es : List Expr} {t : TA} {p pos : Pos}
theorem pe_fn (G : Fn X.prog X.w X.K X.mg X.base x lvl ps sp) (hr : Room lvl X.A) (ha : PA X (e :: es) t) (hg : autoParam (Gl X x) u5._auto_1)
    (hdb : autoParam ((x == ("__debug__" : Str)) = false) u2._auto_1) (he : autoParam (starEach (e :: es) X.env = (false, eval e X.env) :: starEach es X.env) u5._auto_1) (hpl : autoParam ((backTo pos (starEach es X.env)).any (·.1) = false) u5._auto_1) :
    PE X (.Call (.Name x p) (e :: es) [] pos) (tCall sp [] E0 t) := by
  obtain ⟨f, fd, F, hm, hk, hb⟩ := G
  exact pe_call F hr hg hm hk hb .nil pass0 ha hdb he hpl
end
theorem room_u {k d : Nat} {A : Around} (hr : Room k A) (h : d ≤ 200) : A.units + d < cLine := by have := hr.un; omega
section
variable {X : Cx}
theorem ix_listK (K : PySem.W.Frag) (h : autoParam (X.K = K) u5._auto_1) : IxR X (rIxL K) := h ▸ ix_list
def rInK (K : PySem.W.Frag) : R2 := fun x y H Q => ∃ p xs ds dx, y = .ref p ∧ (SqL K H p xs ∨ SqT K H p xs) ∧ RpAll K H xs ds ∧ Rp K H x dx ∧ PyData.canLayAll0 ds = true ∧ dx.canLay0 = true ∧ dx.depth ≤ 9 ∧ Q (.bl (ds.any fun d => PyData.eqv d dx)) H
theorem op_inK (K : PySem.W.Frag) (hu : X.A.units + 10 < cLine) (h : autoParam (X.K = K) u5._auto_1) : OpR X (compareOp .In) (rInK K) := by
  subst h
  intro pins s σ H x y v u Q I rx ry hq
  obtain ⟨p, xs, ds, dx, e1, e2, e3, e4, e5, e6, e7, q⟩ := hq
  exact op_inD pins s σ H x y v u Q I rx ry ⟨p, xs, ds, dx, e1, e2, e3, e4, e5, e6, by omega, q⟩
def rEqK (K : PySem.W.Frag) : R2 := fun x y H Q => ∃ dx dy, Rp K H x dx ∧ Rp K H y dy ∧ dx.canLay0 = true ∧ dy.canLay0 = true ∧ min dx.depth dy.depth ≤ 9 ∧ Q (.bl (PyData.eqv dx dy)) H
theorem op_eqK (K : PySem.W.Frag) (hu : X.A.units + 10 < cLine) (h : autoParam (X.K = K) u5._auto_1) : OpR X (compareOp .Eq) (rEqK K) := by
  subst h
  intro pins s σ H x y v u Q I rx ry hq
  obtain ⟨dx, dy, e1, e2, e3, e4, e5, q⟩ := hq
  exact op_eqD pins s σ H x y v u Q I rx ry ⟨dx, dy, e1, e2, e3, e4, by omega, q⟩
theorem call_lenK (K : PySem.W.Frag) (h : autoParam (X.K = K) u5._auto_1) : CallR X (.builtin "len") (fun xs H Q => ∃ p ys, xs = [.ref p] ∧ (SqL K H p ys ∨ SqT K H p ys) ∧ Q (.int ys.length) H) := h ▸ call_len_seq
end
theorem map_erase {α β : Type} (f : α → β) : ∀ (l : List α) (k : Nat), (l.map f).eraseIdx k = (l.eraseIdx k).map f
  | [], _ => rfl
  | _ :: _, 0 => rfl
  | a :: r, k + 1 => congrArg (f a :: ·) (map_erase f r k)
end L2
set_option Elab.async false
set_option linter.all false
set_option maxRecDepth 100000
namespace L2
open PySem PySem.Spec PyProof.Rows
def Loose : HO → Prop
  | .lst _ => True
  | .dK _ => True
  | .dT _ => True
  | .set _ _ => True
  | _ => False
structure Ext (R H R' H' : Hp) : Prop where
  hh : Same H H'
  rr : Same R R'
  rh : Same R' H'
  nn : ∀ b o, H b = some o → R b = none → R' b = none
  ls : ∀ b o, H' b = some o → R' b = none → Loose o
structure Wd (R H : Hp) : Prop where
  rh : Same R H
  ls : ∀ b o, H b = some o → R b = none → Loose o
theorem Wd.all (H : Hp) : Wd H H := ⟨Same.refl H, fun b o h n => by rw [h] at n; cases n⟩
theorem Ext.wd {R H R' H' : Hp} (e : Ext R H R' H') : Wd R' H' := ⟨e.rh, e.ls⟩
theorem Ext.refl {R H : Hp} (w : Wd R H) : Ext R H R H := ⟨Same.refl H, Same.refl R, w.rh, fun _ _ _ n => n, w.ls⟩
theorem Ext.trans {R H R1 H1 R2 H2 : Hp} (a : Ext R H R1 H1) (b : Ext R1 H1 R2 H2) : Ext R H R2 H2 :=
  ⟨a.hh.trans b.hh, a.rr.trans b.rr, b.rh, fun c o h n => b.nn c o (a.hh c o h) (a.nn c o h n), b.ls⟩
theorem Ext.of_same {H H' : Hp} (s : Same H H') : Ext H H H' H' := ⟨s, s, Same.refl _, fun b o h n => (by rw [h] at n; cases n), (Wd.all H').ls⟩
theorem Ext.new {R H : Hp} {p : Addr} {o : HO} (w : Wd R H) (h : H p = none) : Ext R H (upd R p o) (upd H p o) := by
  have hr : R p = none := w.rh.free h
  refine ⟨Same.new h, Same.new hr, fun b u e => ?_, fun b u e n => ?_, fun b u e n => ?_⟩
  · by_cases hb : b = p
    · subst hb; rw [upd_same] at e ⊢; exact e
    · rw [upd_ne hb] at e ⊢; exact w.rh b u e
  · rw [upd_ne (ne_of_none e h)]; exact n
  · by_cases hb : b = p
    · subst hb; rw [upd_same] at n; cases n
    · rw [upd_ne hb] at e n; exact w.ls b u e n
theorem Ext.newO {R H : Hp} {p : Addr} {o : HO} (w : Wd R H) (h : H p = none) (lo : Loose o) : Ext R H R (upd H p o) := by
  have hr : R p = none := w.rh.free h
  refine ⟨Same.new h, Same.refl R, fun b u e => ?_, fun b u e n => n, fun b u e n => ?_⟩
  · rw [upd_ne (ne_of_none e hr)]; exact w.rh b u e
  · by_cases hb : b = p
    · subst hb; rw [upd_same] at e; cases e; exact lo
    · rw [upd_ne hb] at e; exact w.ls b u e n
theorem Wd.mut {R H : Hp} {p : Addr} {o : HO} (w : Wd R H) (hr : R p = none) (lo : Loose o) : Wd R (upd H p o) := by
  refine ⟨fun b u e => ?_, fun b u e n => ?_⟩
  · rw [upd_ne (ne_of_none e hr)]; exact w.rh b u e
  · by_cases hb : b = p
    · subst hb; rw [upd_same] at e; cases e; exact lo
    · rw [upd_ne hb] at e; exact w.ls b u e n
theorem Ext.grow {R H H' : Hp} (w : Wd R H) (s : Same H H') : ∃ R', Ext R H R' H' ∧ TK H' R' ∧ ∀ b o, H' b = some o → H b = none → R' b = some o := by
  classical
  refine ⟨fun b => if R b = none ∧ H b ≠ none then none else H' b, ⟨s, fun b o e => ?_, fun b o e => ?_, fun b o e n => ?_, fun b o e n => ?_⟩, ⟨fun b xs e => ?_, fun b o u e => ?_⟩, fun b o e n => ?_⟩
  · show (if R b = none ∧ H b ≠ none then none else H' b) = some o
    rw [if_neg (by rw [e]; rintro ⟨z, _⟩; cases z)]
    exact s b o (w.rh b o e)
  · have e : (if R b = none ∧ H b ≠ none then none else H' b) = some o := e
    split at e
    · cases e
    · exact e
  · show (if R b = none ∧ H b ≠ none then none else H' b) = none
    rw [if_pos ⟨n, by rw [e]; intro z; cases z⟩]
  · have n : (if R b = none ∧ H b ≠ none then none else H' b) = none := n
    split at n
    · rename_i hc
      cases q : H b with
      | none => exact absurd q hc.2
      | some u =>
        have := s b u q
        rw [this] at e; cases e
        exact w.ls b _ q hc.1
    · rw [e] at n; cases n
  · show (if R b = none ∧ H b ≠ none then none else H' b) = some _
    rw [if_neg]
    · exact e
    · rintro ⟨n, hc⟩
      cases q : H b with
      | none => exact hc q
      | some u =>
        have := s b u q
        rw [this] at e; cases e
        exact w.ls b _ q n
  · show (if R b = none ∧ H b ≠ none then none else H' b) = some _
    rw [if_neg]
    · exact e
    · rintro ⟨n, hc⟩
      cases q : H b with
      | none => exact hc q
      | some u =>
        have := s b u q
        rw [this] at e; cases e
        exact w.ls b _ q n
  · show (if R b = none ∧ H b ≠ none then none else H' b) = some _
    rw [if_neg (by rintro ⟨_, z⟩; exact z n)]
    exact e
inductive Dt where
  | un
  | d (x : PyData)
  | o (xs : List PyData)
  | dk (kvs : List (Key × PyData))
  | dt (kvs : List (List Key × PyData))
  | oo (xss : List (List PyData))
def Dt.own : Dt → Bool
  | .un => false
  | .d _ => false
  | _ => true
abbrev KvR {κ : Type} (K : PySem.W.Frag) (R : Hp) : List (κ × V) → List (κ × PyData) → Prop := Paired fun p q => p.1 = q.1 ∧ Rp K R p.2 q.2
theorem KvR.same {κ : Type} {K : PySem.W.Frag} {R R' : Hp} (s : Same R R') {l : List (κ × V)} {m : List (κ × PyData)} (h : KvR K R l m) : KvR K R' l m := Paired.mapP h fun _ _ z => ⟨z.1, Rp.same s z.2⟩
abbrev OwnR (K : PySem.W.Frag) (H0 R H : Hp) : List V → List (List PyData) → Prop := Paired fun y xs => ∃ b zs, y = .ref b ∧ H b = some (.lst zs) ∧ R b = none ∧ H0 b = none ∧ RpAll K R zs xs
theorem OwnR.next {K : PySem.W.Frag} {H0 R H R' H' : Hp} {ys : List V} {xss : List (List PyData)} (h : OwnR K H0 R H ys xss) (e : Ext R H R' H') : OwnR K H0 R' H' ys xss :=
  Paired.mapP h fun _ _ ⟨b, zs, h1, h2, h3, h4, h5⟩ => ⟨b, zs, h1, e.hh _ _ h2, e.nn _ _ h2 h3, h4, RpAll.same e.rr h5⟩
theorem OwnR.mem {K : PySem.W.Frag} {H0 R H : Hp} {b : Addr} : ∀ {ys : List V} {xss : List (List PyData)}, OwnR K H0 R H ys xss → V.ref b ∈ ys → ∃ zs, H b = some (.lst zs) ∧ R b = none ∧ H0 b = none
  | _, _, .nil, m => by cases m
  | _, _, .cons ⟨b', zs, h1, h2, h3, h4, _⟩ t, m => by
    rcases List.mem_cons.mp m with z | m
    · rw [h1] at z; cases z; exact ⟨zs, h2, h3, h4⟩
    · exact OwnR.mem t m
theorem OwnR.mut {K : PySem.W.Frag} {H0 R H : Hp} {p : Addr} {o : HO} : ∀ {ys : List V} {xss : List (List PyData)}, OwnR K H0 R H ys xss → V.ref p ∉ ys → OwnR K H0 R (upd H p o) ys xss
  | _, _, .nil, _ => .nil
  | _, _, .cons ⟨b', zs, h1, h2, h3⟩ t, m => .cons ⟨b', zs, h1, by rw [upd_ne (fun z => m (by rw [← z, h1]; exact List.mem_cons_self))]; exact h2, h3⟩ (OwnR.mut t fun z => m (List.mem_cons_of_mem _ z))
def SlotR (K : PySem.W.Frag) (H0 R H : Hp) : Option V → Dt → Prop
  | _, .un => True
  | some v, .d x => Rp K R v x
  | some v, .o xs => ∃ a ys, v = .ref a ∧ H a = some (.lst ys) ∧ R a = none ∧ H0 a = none ∧ RpAll K R ys xs
  | some v, .dk kvs => ∃ a ys, v = .ref a ∧ H a = some (.dK ys) ∧ R a = none ∧ H0 a = none ∧ KvR K R ys kvs
  | some v, .dt kvs => ∃ a ys, v = .ref a ∧ H a = some (.dT ys) ∧ R a = none ∧ H0 a = none ∧ KvR K R ys kvs
  | some v, .oo xss => ∃ a ys, v = .ref a ∧ H a = some (.lst ys) ∧ R a = none ∧ H0 a = none ∧ OwnR K H0 R H ys xss ∧ ys.Nodup ∧ V.ref a ∉ ys
  | none, _ => False
def Dt.has (H : Hp) : Dt → Option V → Addr → Prop
  | .un, _, _ => False
  | .d _, _, _ => False
  | .oo _, x, b => x = some (.ref b) ∨ ∃ a ys, x = some (.ref a) ∧ H a = some (.lst ys) ∧ V.ref b ∈ ys
  | _, x, b => x = some (.ref b)
theorem Dt.has_ref {H : Hp} {d : Dt} {a : Addr} (h : d.own = true) : d.has H (some (.ref a)) a := by
  cases d with
  | un => cases h
  | d _ => cases h
  | oo _ => exact .inl rfl
  | _ => rfl
theorem Dt.has_own {H : Hp} {d : Dt} {x : Option V} {b : Addr} (h : d.has H x b) : d.own = true := by
  cases d with
  | un => cases h
  | d _ => cases h
  | _ => rfl
theorem SlotR.next {K : PySem.W.Frag} {H0 R H R' H' : Hp} {x : Option V} {d : Dt} (h : SlotR K H0 R H x d) (e : Ext R H R' H') : SlotR K H0 R' H' x d := by
  cases d with
  | un => cases x <;> trivial
  | d y => cases x with
    | none => exact h
    | some v => exact Rp.same e.rr h
  | o xs => cases x with
    | none => exact h
    | some v =>
      obtain ⟨a, ys, h1, h2, h3, h4, h5⟩ := h
      exact ⟨a, ys, h1, e.hh _ _ h2, e.nn _ _ h2 h3, h4, RpAll.same e.rr h5⟩
  | dk xs => cases x with
    | none => exact h
    | some v =>
      obtain ⟨a, ys, h1, h2, h3, h4, h5⟩ := h
      exact ⟨a, ys, h1, e.hh _ _ h2, e.nn _ _ h2 h3, h4, KvR.same e.rr h5⟩
  | dt xs => cases x with
    | none => exact h
    | some v =>
      obtain ⟨a, ys, h1, h2, h3, h4, h5⟩ := h
      exact ⟨a, ys, h1, e.hh _ _ h2, e.nn _ _ h2 h3, h4, KvR.same e.rr h5⟩
  | oo xs => cases x with
    | none => exact h
    | some v =>
      obtain ⟨a, ys, h1, h2, h3, h4, h5, h6⟩ := h
      exact ⟨a, ys, h1, e.hh _ _ h2, e.nn _ _ h2 h3, h4, h5.next e, h6⟩
theorem SlotR.mut {K : PySem.W.Frag} {H0 R H : Hp} {p : Addr} {o : HO} {x : Option V} {d : Dt} (h : SlotR K H0 R H x d) (ne : ¬ d.has H x p) : SlotR K H0 R (upd H p o) x d := by
  cases d with
  | un => cases x <;> trivial
  | d y => cases x <;> exact h
  | o xs => cases x with
    | none => exact h
    | some v =>
      obtain ⟨a, ys, h1, h2, h3⟩ := h
      subst h1
      exact ⟨a, ys, rfl, by rw [upd_ne (fun z => ne (by rw [z]; exact rfl))]; exact h2, h3⟩
  | dk xs => cases x with
    | none => exact h
    | some v =>
      obtain ⟨a, ys, h1, h2, h3⟩ := h
      subst h1
      exact ⟨a, ys, rfl, by rw [upd_ne (fun z => ne (by rw [z]; exact rfl))]; exact h2, h3⟩
  | dt xs => cases x with
    | none => exact h
    | some v =>
      obtain ⟨a, ys, h1, h2, h3⟩ := h
      subst h1
      exact ⟨a, ys, rfl, by rw [upd_ne (fun z => ne (by rw [z]; exact rfl))]; exact h2, h3⟩
  | oo xs => cases x with
    | none => exact h
    | some v =>
      obtain ⟨a, ys, h1, h2, h3, h4, h5, h6⟩ := h
      subst h1
      exact ⟨a, ys, rfl, by rw [upd_ne (fun z => ne (.inl (by rw [z])))]; exact h2, h3, h4, h5.mut fun z => ne (.inr ⟨a, ys, rfl, h2, z⟩), h6⟩
theorem SlotR.addr {K : PySem.W.Frag} {H0 R H : Hp} {x : Option V} {d : Dt} (h : SlotR K H0 R H x d) (ho : d.own = true) : ∃ a o, x = some (.ref a) ∧ H a = some o ∧ R a = none ∧ H0 a = none := by
  cases d with
  | un => cases ho
  | d y => cases ho
  | o xs => cases x with
    | none => exact h.elim
    | some v => obtain ⟨a, ys, rfl, h2, h3, h4, _⟩ := h; exact ⟨a, _, rfl, h2, h3, h4⟩
  | dk xs => cases x with
    | none => exact h.elim
    | some v => obtain ⟨a, ys, rfl, h2, h3, h4, _⟩ := h; exact ⟨a, _, rfl, h2, h3, h4⟩
  | dt xs => cases x with
    | none => exact h.elim
    | some v => obtain ⟨a, ys, rfl, h2, h3, h4, _⟩ := h; exact ⟨a, _, rfl, h2, h3, h4⟩
  | oo xs => cases x with
    | none => exact h.elim
    | some v => obtain ⟨a, ys, rfl, h2, h3, h4, _⟩ := h; exact ⟨a, _, rfl, h2, h3, h4⟩
theorem SlotR.hasAt {K : PySem.W.Frag} {H0 R H : Hp} {x : Option V} {d : Dt} {b : Addr} (h : SlotR K H0 R H x d) (hb : d.has H x b) : ∃ o, H b = some o ∧ R b = none ∧ H0 b = none := by
  have go : d.own = true → x = some (.ref b) → ∃ o, H b = some o ∧ R b = none ∧ H0 b = none := fun ho hx => by
    obtain ⟨a, o, e, h2, h3, h4⟩ := h.addr ho
    rw [hx] at e; cases e
    exact ⟨o, h2, h3, h4⟩
  cases d with
  | un => cases hb
  | d y => cases hb
  | oo xs =>
    rcases hb with hb | ⟨a, ys, rfl, h2, m⟩
    · exact go rfl hb
    · obtain ⟨a', ys', e, h2', _, _, h5, _⟩ := h
      cases e
      rw [h2] at h2'; cases h2'
      obtain ⟨zs, z⟩ := h5.mem m
      exact ⟨_, z⟩
  | o xs => exact go rfl hb
  | dk xs => exact go rfl hb
  | dt xs => exact go rfl hb
theorem SlotR.hasNext {K : PySem.W.Frag} {H0 R H H' : Hp} {x : Option V} {d : Dt} {b : Addr} (h : SlotR K H0 R H x d) (e : ∀ a ys, x = some (.ref a) → H a = some (.lst ys) → H' a = some (.lst ys)) (hb : d.has H' x b) : d.has H x b := by
  cases d with
  | un => cases hb
  | d y => cases hb
  | oo xs =>
    rcases hb with hb | ⟨a, ys, rfl, h2, m⟩
    · exact .inl hb
    · obtain ⟨a', ys', q, h2', _⟩ := h
      cases q
      rw [e a ys' rfl h2'] at h2; cases h2
      exact .inr ⟨a, _, rfl, h2', m⟩
  | o xs => exact hb
  | dk xs => exact hb
  | dt xs => exact hb
theorem SlotR.hasMut {K : PySem.W.Frag} {H0 R H : Hp} {p : Addr} {o : HO} {x : Option V} {d : Dt} {b : Addr} (h : SlotR K H0 R H x d) (ne : ¬ d.has H x p) (hb : d.has (upd H p o) x b) : d.has H x b :=
  h.hasNext (fun a ys hx e => by rw [upd_ne (fun z => ne (by rw [hx, z]; exact Dt.has_ref (Dt.has_own hb)))]; exact e) hb
structure Fra (He : Hp) (K : PySem.W.Frag) (H0 R H : Hp) (σ : St) (env : List Dt) : Prop where
  at0 : Same He H0
  ext : Ext H0 H0 R H
  len : σ.length = env.length
  slot : ∀ (i : Nat) (d : Dt), env[i]? = some d → SlotR K H0 R H (σ[i]?).join d
  apart : ∀ (i j : Nat) (di dj : Dt) (b : Addr), env[i]? = some di → env[j]? = some dj → di.has H (σ[i]?).join b → dj.has H (σ[j]?).join b → i = j
section
variable {He : Hp} {K : PySem.W.Frag} {H0 R H R' H' : Hp} {σ : St} {env : List Dt}
theorem Fra.wd (f : Fra He K H0 R H σ env) : Wd R H := f.ext.wd
theorem Fra.next (f : Fra He K H0 R H σ env) (e : Ext R H R' H') : Fra He K H0 R' H' σ env := ⟨f.at0, f.ext.trans e, f.len, fun i d h => (f.slot i d h).next e, fun i j di dj b hi hj bi bj => f.apart i j di dj b hi hj ((f.slot i di hi).hasNext (fun a ys _ z => e.hh a _ z) bi) ((f.slot j dj hj).hasNext (fun a ys _ z => e.hh a _ z) bj)⟩
theorem Fra.get (f : Fra He K H0 R H σ env) {i : Nat} {d : Dt} (h : env[i]? = some d) (hu : d ≠ .un) : ∃ v, σ[i]? = some (some v) ∧ SlotR K H0 R H (some v) d := by
  have q := f.slot i d h
  cases e : σ[i]? with
  | none =>
    rw [e] at q
    cases d <;> first | exact absurd rfl hu | exact q.elim
  | some x =>
    cases x with
    | none =>
      rw [e] at q
      cases d <;> first | exact absurd rfl hu | exact q.elim
    | some v => rw [e] at q; exact ⟨v, rfl, q⟩
theorem Fra.data (f : Fra He K H0 R H σ env) {i : Nat} {d : PyData} (h : env[i]? = some (.d d)) : ∃ v, σ[i]? = some (some v) ∧ Rp K R v d := f.get h (by intro z; cases z)
theorem Fra.set (f : Fra He K H0 R H σ env) (i : Nat) {v : V} {d : Dt} (h : SlotR K H0 R H (some v) d) (ha : ∀ (b : Addr), d.has H (some v) b → ∀ (j : Nat) (dj : Dt), j ≠ i → env[j]? = some dj → ¬ dj.has H (σ[j]?).join b) : Fra He K H0 R H (σ.set i (some v)) (env.set i d) := by
  have g : ∀ k, (σ.set i (some v))[k]? = if i = k then (if i < σ.length then some (some v) else none) else σ[k]? := fun k => List.getElem?_set ..
  have ge : ∀ k, (env.set i d)[k]? = if i = k then (if i < env.length then some d else none) else env[k]? := fun k => List.getElem?_set ..
  refine ⟨f.at0, f.ext, by simp [f.len], fun k x e => ?_, fun k j dk dj a ek ej ok oj => ?_⟩
  · rw [ge] at e
    rw [g, f.len]
    by_cases hk : i = k
    · rw [if_pos hk] at e ⊢
      split at e
      · rename_i hl
        cases e
        rw [if_pos hl]; exact h
      · cases e
    · rw [if_neg hk] at e ⊢
      exact f.slot k x e
  · rw [ge] at ek ej
    rw [g, f.len] at ok oj
    by_cases hk : i = k <;> by_cases hj : i = j
    · rw [← hk, hj]
    · rw [if_pos hk] at ek ok
      rw [if_neg hj] at ej oj
      split at ek
      · rename_i hl
        cases ek
        rw [if_pos hl] at ok
        exact absurd oj (ha a ok j dj (fun z => hj z.symm) ej)
      · cases ek
    · rw [if_neg hk] at ek ok
      rw [if_pos hj] at ej oj
      split at ej
      · rename_i hl
        cases ej
        rw [if_pos hl] at oj
        exact absurd ok (ha a oj k dk (fun z => hk z.symm) ek)
      · cases ej
    · rw [if_neg hk] at ek ok
      rw [if_neg hj] at ej oj
      exact f.apart k j dk dj a ek ej ok oj
theorem Fra.setD (f : Fra He K H0 R H σ env) (i : Nat) {v : V} {d : PyData} (h : Rp K R v d) : Fra He K H0 R H (σ.set i (some v)) (env.set i (.d d)) := f.set i h (fun _ z => by cases z)
theorem Fra.setN' (f : Fra He K H0 R H σ env) (e : Ext R H R' H') (i : Nat) {v : V} {d : Dt} (h : SlotR K H0 R' H' (some v) d) (hn : ∀ b, d.has H' (some v) b → H b = none) : Fra He K H0 R' H' (σ.set i (some v)) (env.set i d) :=
  (f.next e).set i h fun b hb j dj _ ej oj => by
    have oj := (f.slot j dj ej).hasNext (fun a ys _ z => e.hh a _ z) oj
    obtain ⟨o, e2, _⟩ := (f.slot j dj ej).hasAt oj
    rw [hn b hb] at e2
    cases e2
theorem Fra.setN (f : Fra He K H0 R H σ env) (e : Ext R H R' H') (i : Nat) {a : Addr} {d : Dt} (hn : H a = none) (h : SlotR K H0 R' H' (some (.ref a)) d) (hd : autoParam (∀ b, d.has H' (some (.ref a)) b → a = b) u8._auto_1) : Fra He K H0 R' H' (σ.set i (some (.ref a))) (env.set i d) :=
  f.setN' e i h fun b hb => by rw [← hd b hb]; exact hn
theorem Fra.mut' (f : Fra He K H0 R H σ env) {i : Nat} {a : Addr} {d d' : Dt} {o : HO} (h : env[i]? = some d) (hs : d.has H (σ[i]?).join a) (lo : Loose o)
    (h' : SlotR K H0 R (upd H a o) (σ[i]?).join d') (hn : ∀ b, d'.has (upd H a o) (σ[i]?).join b → d.has H (σ[i]?).join b ∨ ∀ (j : Nat) (dj : Dt), j ≠ i → env[j]? = some dj → ¬ dj.has H (σ[j]?).join b) : Fra He K H0 R (upd H a o) σ (env.set i d') := by
  obtain ⟨u, e2, e3, e4⟩ := (f.slot i d h).hasAt hs
  have ge : ∀ k, (env.set i d')[k]? = if i = k then (if i < env.length then some d' else none) else env[k]? := fun k => List.getElem?_set ..
  have w := Wd.mut (o := o) f.wd e3 lo
  have nh : ∀ (k : Nat) (x : Dt), i ≠ k → env[k]? = some x → ¬ x.has H (σ[k]?).join a := fun k x hk e z => hk (f.apart i k d x a h e hs z)
  have two : ∀ (k j : Nat) (dk dj : Dt) (b : Addr), i = k → i ≠ j → (if i < env.length then some d' else none) = some dk → env[j]? = some dj → dk.has (upd H a o) (σ[k]?).join b → dj.has (upd H a o) (σ[j]?).join b → False := fun k j dk dj b hk hj ek ej ok oj => by
    subst hk
    split at ek
    · cases ek
      have oj := (f.slot j dj ej).hasMut (nh j dj hj ej) oj
      rcases hn b ok with ok | nb
      · exact hj (f.apart i j d dj b h ej ok oj)
      · exact nb j dj (fun z => hj z.symm) ej oj
    · cases ek
  refine ⟨f.at0, ⟨f.ext.hh.put e4, f.ext.rr, w.rh, f.ext.nn, w.ls⟩, by simp [f.len], fun k x e => ?_, fun k j dk dj b ek ej ok oj => ?_⟩
  · rw [ge] at e
    by_cases hk : i = k
    · subst hk
      rw [if_pos rfl] at e
      split at e
      · cases e
        exact h'
      · cases e
    · rw [if_neg hk] at e
      exact (f.slot k x e).mut (nh k x hk e)
  · rw [ge] at ek ej
    by_cases hk : i = k <;> by_cases hj : i = j
    · rw [← hk, hj]
    · rw [if_pos hk] at ek
      rw [if_neg hj] at ej
      exact (two k j dk dj b hk hj ek ej ok oj).elim
    · rw [if_neg hk] at ek
      rw [if_pos hj] at ej
      exact (two j k dj dk b hj hk ej ek oj ok).elim
    · rw [if_neg hk] at ek
      rw [if_neg hj] at ej
      exact f.apart k j dk dj b ek ej ((f.slot k dk ek).hasMut (nh k dk hk ek) ok) ((f.slot j dj ej).hasMut (nh j dj hj ej) oj)
theorem Fra.mut (f : Fra He K H0 R H σ env) {i : Nat} {a : Addr} {d d' : Dt} {o : HO} (h : env[i]? = some d) (hd : d.own = true) (hs : σ[i]? = some (some (.ref a))) (lo : Loose o)
    (h' : SlotR K H0 R (upd H a o) (some (.ref a)) d') (hd' : autoParam (∀ b, d'.has (upd H a o) (some (.ref a)) b → a = b) u8._auto_1) : Fra He K H0 R (upd H a o) σ (env.set i d') := by
  have hj : (σ[i]?).join = some (.ref a) := by rw [hs]; rfl
  refine f.mut' h (by rw [hj]; exact Dt.has_ref hd) lo (by rw [hj]; exact h') fun b z => .inl ?_
  rw [hj] at z ⊢
  rw [← hd' b z]
  exact Dt.has_ref hd
theorem Fra.drop (f : Fra He K H0 R H σ env) (i : Nat) : Fra He K H0 R H σ (env.set i .un) := by
  have ge : ∀ k, (env.set i .un)[k]? = if i = k then (if i < env.length then some .un else none) else env[k]? := fun k => List.getElem?_set ..
  have gx : ∀ k x, (env.set i .un)[k]? = some x → x = Dt.un ∨ env[k]? = some x := fun k x e => by
    rw [ge] at e
    split at e
    · split at e
      · cases e; exact .inl rfl
      · cases e
    · exact .inr e
  refine ⟨f.at0, f.ext, by simp [f.len], fun k x e => ?_, fun k j dk dj b ek ej ok oj => ?_⟩
  · rcases gx k x e with rfl | e
    · cases (σ[k]?).join <;> trivial
    · exact f.slot k x e
  · rcases gx k dk ek with rfl | ek
    · cases ok
    · rcases gx j dj ej with rfl | ej
      · cases oj
      · exact f.apart k j dk dj b ek ej ok oj
theorem SlotR.grow {K : PySem.W.Frag} {H0 R H R' : Hp} {x : Option V} {d : Dt} (h : SlotR K H0 R H x d) (s : Same R R') (hn : ∀ b, d.has H x b → R' b = none) : SlotR K H0 R' H x d := by
  cases d with
  | un => cases x <;> trivial
  | d y => cases x with
    | none => exact h
    | some v => exact Rp.same s h
  | o xs => cases x with
    | none => exact h
    | some v =>
      obtain ⟨a, ys, rfl, h2, h3, h4, h5⟩ := h
      exact ⟨a, ys, rfl, h2, hn a rfl, h4, RpAll.same s h5⟩
  | dk xs => cases x with
    | none => exact h
    | some v =>
      obtain ⟨a, ys, rfl, h2, h3, h4, h5⟩ := h
      exact ⟨a, ys, rfl, h2, hn a rfl, h4, KvR.same s h5⟩
  | dt xs => cases x with
    | none => exact h
    | some v =>
      obtain ⟨a, ys, rfl, h2, h3, h4, h5⟩ := h
      exact ⟨a, ys, rfl, h2, hn a rfl, h4, KvR.same s h5⟩
  | oo xs => cases x with
    | none => exact h
    | some v =>
      obtain ⟨a, ys, rfl, h2, h3, h4, h5, h6⟩ := h
      refine ⟨a, ys, rfl, h2, hn a (.inl rfl), h4, ?_, h6⟩
      have hm : ∀ b, V.ref b ∈ ys → R' b = none := fun b m => hn b (.inr ⟨a, ys, rfl, h2, m⟩)
      clear h2 h6 hn
      induction h5 with
      | nil => exact .nil
      | cons h t ih =>
        obtain ⟨b, zs, e1, e2, e3, e4, e5⟩ := h
        exact .cons ⟨b, zs, e1, e2, hm b (by rw [e1]; exact List.mem_cons_self), e4, RpAll.same s e5⟩ (ih fun b m => hm b (List.mem_cons_of_mem _ m))
theorem Fra.give (f : Fra He K H0 R H σ env) {i : Nat} {d d' : Dt} (h : env[i]? = some d) (hr : Same R R') (hR : ∀ b o, R' b = some o → R b = some o ∨ d.has H (σ[i]?).join b ∧ H b = some o) (h' : SlotR K H0 R' H (σ[i]?).join d') (hn : ∀ b, d'.has H (σ[i]?).join b → d.has H (σ[i]?).join b) : Fra He K H0 R' H σ (env.set i d') := by
  have ge : ∀ k, (env.set i d')[k]? = if i = k then (if i < env.length then some d' else none) else env[k]? := fun k => List.getElem?_set ..
  refine ⟨f.at0, ⟨f.ext.hh, f.ext.rr.trans hr, fun b o e => ?_, fun b o e n => ?_, fun b o e n => ?_⟩, by simp [f.len], fun k x e => ?_, fun k j dk dj b ek ej ok oj => ?_⟩
  · rcases hR b o e with z | z
    · exact f.ext.rh b o z
    · exact z.2
  · rw [e] at n; cases n
  · cases q : R b with
    | none => exact f.ext.ls b o e q
    | some u => rw [hr b u q] at n; cases n
  · rw [ge] at e
    by_cases hk : i = k
    · subst hk
      rw [if_pos rfl] at e
      split at e
      · cases e; exact h'
      · cases e
    · rw [if_neg hk] at e
      refine (f.slot k x e).grow hr fun b hb => ?_
      cases q : R' b with
      | none => rfl
      | some o =>
        rcases hR b o q with z | z
        · obtain ⟨_, _, z2, _⟩ := (f.slot k x e).hasAt hb
          rw [z] at z2; cases z2
        · exact absurd (f.apart i k d x b h e z.1 hb) hk
  · have old : ∀ (k : Nat) (dk : Dt), (env.set i d')[k]? = some dk → dk.has H (σ[k]?).join b → ∃ dk0, env[k]? = some dk0 ∧ dk0.has H (σ[k]?).join b := fun k dk ek ok => by
      rw [ge] at ek
      by_cases hk : i = k
      · subst hk
        rw [if_pos rfl] at ek
        split at ek
        · cases ek; exact ⟨d, h, hn b ok⟩
        · cases ek
      · rw [if_neg hk] at ek
        exact ⟨dk, ek, ok⟩
    obtain ⟨d1, e1, o1⟩ := old k dk ek ok
    obtain ⟨d2, e2, o2⟩ := old j dj ej oj
    exact f.apart k j d1 d2 b e1 e2 o1 o2
theorem Fra.frz1 (f : Fra He K H0 R H σ env) {i : Nat} {xs : List PyData} (h : env[i]? = some (.o xs)) : ∃ a ys, σ[i]? = some (some (.ref a)) ∧ H a = some (.lst ys) ∧ R a = none ∧ Same R (upd R a (.lst ys)) ∧ Fra He K H0 (upd R a (.lst ys)) H σ (env.set i (.d (.list xs))) := by
  obtain ⟨v, hs, a, ys, rfl, h2, h3, h4, h5⟩ := f.get h (by intro z; cases z)
  have hr : Same R (upd R a (.lst ys)) := Same.new h3
  have hj : (σ[i]?).join = some (.ref a) := by rw [hs]; rfl
  refine ⟨a, ys, hs, h2, h3, hr, f.give h hr (fun b o e => ?_) (by rw [hj]; exact .lst upd_same (RpAll.same hr h5)) (fun b z => by cases z)⟩
  by_cases hb : b = a
  · subst hb; rw [upd_same] at e; cases e; exact .inr ⟨by rw [hj]; exact rfl, h2⟩
  · rw [upd_ne hb] at e; exact .inl e
theorem Fra.frz (f : Fra He K H0 R H σ env) {i : Nat} {xs : List PyData} (h : env[i]? = some (.o xs)) : ∃ R', Same R R' ∧ Fra He K H0 R' H σ (env.set i (.d (.list xs))) := by
  obtain ⟨a, ys, _, _, _, hr, F⟩ := f.frz1 h
  exact ⟨_, hr, F⟩
end
abbrev De := List Dt → (PyData → Prop) → Prop
abbrev Dq := List Dt → (List PyData → Prop) → Prop
abbrev Db := List Dt → (Bool → Prop) → Prop
section
variable (He : Hp) (K : PySem.W.Frag) {ι : Type} (Y : ι → Cx)
def DE (e : Expr) (t : De) : Prop := ∃ te : TE, (∀ i, PE (Y i) e te) ∧ ∀ {H0 R H : Hp} {σ : St} {env : List Dt} (P : PyData → Prop) (Q : VK), Fra He K H0 R H σ env → t env P →
  (∀ d v R' H', P d → Ext R H R' H' → Rp K R' v d → Q v H') → te σ H Q
def DB (e : Expr) (t : De) : Prop := ∃ te : TE, (∀ i, PE (Y i) e te) ∧ ∀ {H0 R H : Hp} {σ : St} {env : List Dt} (P : PyData → Prop) (Q : VK), Fra He K H0 R H σ env → t env P →
  (∀ d v R' H', P d → Ext R H R' H' → Rp K H' v d → Q v H') → te σ H Q
def DQ (e : Expr) (t : Dq) : Prop := ∃ te : TE, (∀ i, PE (Y i) e te) ∧ ∀ {H0 R H : Hp} {σ : St} {env : List Dt} (P : List PyData → Prop) (Q : VK), Fra He K H0 R H σ env → t env P →
  (∀ ds a ys R' H', P ds → Ext R H R' H' → (SqL K H' a ys ∨ SqT K H' a ys) → RpAll K R' ys ds → Q (.ref a) H') → te σ H Q
def DO (e : Expr) (t : Dq) : Prop := ∃ te : TE, (∀ i, PE (Y i) e te) ∧ ∀ {H0 R H : Hp} {σ : St} {env : List Dt} (P : List PyData → Prop) (Q : VK), Fra He K H0 R H σ env → t env P →
  (∀ ds a ys R' H', P ds → Ext R H R' H' → H a = none → H' a = some (.lst ys) → R' a = none → RpAll K R' ys ds → Q (.ref a) H') → te σ H Q
def DT (e : Expr) (t : Db) : Prop := ∃ te : TT, (∀ i, PT (Y i) e te) ∧ ∀ {H0 R H : Hp} {σ : St} {env : List Dt} (P : Bool → Prop) (Q : Bool → Hp → Prop), Fra He K H0 R H σ env → t env P →
  (∀ b R' H', P b → Ext R H R' H' → Q b H') → te σ H Q
def DW (e : Expr) (t : Db) : Prop := ∃ te : TT, (∀ i, PW (Y i) e te) ∧ ∀ {H0 R H : Hp} {σ : St} {env : List Dt} (P : Bool → Prop) (Q : Bool → Hp → Prop), Fra He K H0 R H σ env → t env P →
  (∀ b R' H', P b → Ext R H R' H' → Q b H') → te σ H Q
def DA (es : List Expr) (t : Dq) : Prop := ∃ te : TA, (∀ i, PA (Y i) es te) ∧ ∀ {H0 R H : Hp} {σ : St} {env : List Dt} (P : List PyData → Prop) (Q : List V → Hp → Prop), Fra He K H0 R H σ env → t env P →
  (∀ ds vs R' H', P ds → Ext R H R' H' → RpAll K R' vs ds → Q vs H') → te σ H Q
def Sc (v : V) (d : PyData) : Prop := ∀ (K : PySem.W.Frag) (R : Hp), Rp K R v d
def OD (f : Value → Value → Sem Value) (r : PyData → PyData → (PyData → Prop) → Prop) : Prop := ∃ rr : R2, (∀ i, OpR (Y i) f rr) ∧ ∀ {H : Hp} {x y : V} {dx dy : PyData} (P : PyData → Prop) (Q : VK), Rp K H x dx → Rp K H y dy → r dx dy P →
  (∀ d v, P d → Sc v d → Q v H) → rr x y H Q
end
section
variable {He : Hp} {K : PySem.W.Frag} {ι : Type} {Y : ι → Cx} {e a b c : Expr} {es : List Expr} {pos : Pos}
def xVar (i : Nat) : De := fun env P => ∃ d, env[i]? = some (.d d) ∧ P d
def xC (d : PyData) : De := fun _ P => P d
theorem de_var (i : Nat) {x : Str} (h : autoParam (∀ j, PE (Y j) (.Name x pos) (tVar i)) u9._auto_1) : DE He K Y (.Name x pos) (xVar i) :=
  ⟨_, h, fun P Q f ⟨d, e, p⟩ k => by obtain ⟨v, h1, h2⟩ := f.data e; exact ⟨v, h1, k d v _ _ p (.refl f.wd) h2⟩⟩
theorem de_int {i : Int} {j} : DE He K Y (.Constant (.int i) j pos) (xC (.int i)) := ⟨_, fun _ => pe_int, fun P Q f p k => k _ _ _ _ p (.refl f.wd) (.int i)⟩
theorem de_bl {i : Bool} {j} : DE He K Y (.Constant (.bool i) j pos) (xC (.bool i)) := ⟨_, fun _ => pe_bl, fun P Q f p k => k _ _ _ _ p (.refl f.wd) (.bl i)⟩
theorem de_non {j} : DE He K Y (.Constant .none j pos) (xC .none) := ⟨_, fun _ => pe_non, fun P Q f p k => k _ _ _ _ p (.refl f.wd) .non⟩
theorem DE.bw {t : De} (h : DE He K Y e t) : DB He K Y e t := by
  obtain ⟨te, h1, h2⟩ := h
  exact ⟨te, h1, fun P Q f p k => h2 P Q f p fun d v R' H' pd e r => k d v R' H' pd e (Rp.same e.rh r)⟩
def frzD : Dt → Option PyData
  | .d x => some x
  | .o xs => some (.list xs)
  | .oo xss => some (.list (xss.map PyData.list))
  | _ => none
theorem OwnR.rp {K : PySem.W.Frag} {H0 R H H' : Hp} {ys : List V} {xss : List (List PyData)} (h : OwnR K H0 R H ys xss) (s : Same R H') (e : ∀ b zs, V.ref b ∈ ys → H b = some (.lst zs) → H' b = some (.lst zs)) : RpAll K H' ys (xss.map PyData.list) := by
  induction h with
  | nil => exact .nil
  | cons h t ih =>
    obtain ⟨b, zs, rfl, e2, e3, e4, e5⟩ := h
    exact .cons (.lst (e b zs List.mem_cons_self e2) (RpAll.same s e5)) (ih fun b zs m => e b zs (List.mem_cons_of_mem _ m))
def xVarB (i : Nat) : De := fun env P => ∃ s d, env[i]? = some s ∧ frzD s = some d ∧ P d
theorem db_var (i : Nat) {x : Str} (h : autoParam (∀ j, PE (Y j) (.Name x pos) (tVar i)) u9._auto_1) : DB He K Y (.Name x pos) (xVarB i) :=
  ⟨_, h, fun P Q f ⟨s, d, e, z, p⟩ k => by
    cases s with
    | d x =>
      cases z
      obtain ⟨v, h1, h2⟩ := f.data e
      exact ⟨v, h1, k d v _ _ p (.refl f.wd) (Rp.same f.wd.rh h2)⟩
    | o xs =>
      cases z
      obtain ⟨v, hs, a, ys, rfl, h2, h3, h4, h5⟩ := f.get e (by intro z; cases z)
      exact ⟨_, hs, k _ _ _ _ p (.refl f.wd) (.lst h2 (RpAll.same f.wd.rh h5))⟩
    | oo xs =>
      cases z
      obtain ⟨v, hs, a, ys, rfl, h2, h3, h4, h5, _⟩ := f.get e (by intro z; cases z)
      exact ⟨_, hs, k _ _ _ _ p (.refl f.wd) (.lst h2 (h5.rp f.wd.rh fun _ _ _ z => z))⟩
    | un => cases z
    | dk _ => cases z
    | dt _ => cases z⟩
def excK : List (PyData × PyData) → Bool
  | (.bool _, _) :: _ => true
  | _ => false
theorem excK_scr (ns : List Int) : excK (ns.map fun n => (PyData.int n, PyData.none)) = false := by cases ns <;> rfl
def seqD : PyData → Option (List PyData)
  | .list xs => some xs
  | .tuple xs => some xs
  | .dict kvs => if excK kvs = true then none else some (kvs.map (·.1))
  | _ => none
def seqS : Dt → Option (List PyData)
  | .d x => seqD x
  | .o xs => some xs
  | _ => none
theorem seq_inv {H : Hp} {v : V} {d : PyData} {l : List PyData} (r : Rp K H v d) (h : seqD d = some l) : ∃ a ys, v = .ref a ∧ (SqL K H a ys ∨ SqT K H a ys) ∧ RpAll K H ys l := by
  cases r with
  | lst h1 h2 => cases h; exact ⟨_, _, rfl, .inl (SqL.of h1), h2⟩
  | @scr a ns h1 =>
    have h : (if excK (ns.map fun n => (PyData.int n, PyData.none)) = true then none else some ((ns.map fun n => (PyData.int n, PyData.none)).map (·.1))) = some l := h
    rw [excK_scr, if_neg Bool.false_ne_true, List.map_map] at h
    cases h
    exact ⟨_, _, rfl, .inl h1, RpAll.ints ns⟩
  | tup h1 h2 => cases h; exact ⟨_, _, rfl, .inr (SqT.of h1), h2⟩
  | non => cases h
  | bl _ => cases h
  | int _ => cases h
  | str _ => cases h
  | any => cases h
  | xc _ => cases h
theorem Same.seqT {H H' : Hp} {a : Addr} {xs : List V} (e : Same H H') (h : SqT K H a xs) : SqT K H' a xs := (Same.tk e).sqT h
theorem Same.sq {H H' : Hp} {a : Addr} {xs : List V} (e : Same H H') (h : SqL K H a xs ∨ SqT K H a xs) : SqL K H' a xs ∨ SqT K H' a xs := h.imp e.seq e.seqT
def xSeq (t : De) : Dq := fun env P => t env fun d => ∃ l, seqD d = some l ∧ P l
theorem DE.q {t : De} (h : DE He K Y e t) : DQ He K Y e (xSeq t) := by
  obtain ⟨te, h1, h2⟩ := h
  refine ⟨te, h1, fun P Q f p k => h2 _ Q f p fun d v R' H' ⟨l, hl, pl⟩ e r => ?_⟩
  obtain ⟨a, ys, rfl, h3, h4⟩ := seq_inv r hl
  exact k l a ys R' H' pl e (e.rh.sq h3) h4
def xVarQ (i : Nat) : Dq := fun env P => ∃ s l, env[i]? = some s ∧ seqS s = some l ∧ P l
theorem dq_var (i : Nat) {x : Str} (h : autoParam (∀ j, PE (Y j) (.Name x pos) (tVar i)) u9._auto_1) : DQ He K Y (.Name x pos) (xVarQ i) :=
  ⟨_, h, fun P Q f ⟨s, l, e, z, p⟩ k => by
    cases s with
    | d x =>
      obtain ⟨v, h1, h2⟩ := f.data e
      obtain ⟨a, ys, rfl, h3, h4⟩ := seq_inv h2 z
      exact ⟨_, h1, k l a ys _ _ p (.refl f.wd) (f.wd.rh.sq h3) h4⟩
    | o xs =>
      cases z
      obtain ⟨v, hs, a, ys, rfl, h2, h3, h4, h5⟩ := f.get e (by intro z; cases z)
      exact ⟨_, hs, k _ a ys _ _ p (.refl f.wd) (.inl (SqL.of h2)) h5⟩
    | un => cases z
    | oo _ => cases z
    | dk _ => cases z
    | dt _ => cases z⟩
def xLst (t : Dq) : De := fun env P => t env fun l => P (.list l)
theorem DO.ew {t : Dq} (h : DO He K Y e t) : DE He K Y e (xLst t) := by
  obtain ⟨te, h1, h2⟩ := h
  refine ⟨te, h1, fun P Q f p k => h2 _ Q f p fun ds a ys R' H' pl e hn ha hr r => ?_⟩
  have s := Same.new (H := R') (p := a) (o := .lst ys) hr
  refine k _ _ (upd R' a (.lst ys)) H' pl ⟨e.hh, e.rr.trans s, fun b o z => ?_, fun b o z n => ?_, fun b o z n => ?_⟩ (.lst upd_same (RpAll.same s r))
  · by_cases hb : b = a
    · subst hb; rw [upd_same] at z; cases z; exact ha
    · rw [upd_ne hb] at z; exact e.rh b o z
  · rw [upd_ne (ne_of_none z hn)]; exact e.nn b o z n
  · by_cases hb : b = a
    · subst hb; rw [upd_same] at n; cases n
    · rw [upd_ne hb] at n; exact e.ls b o z n
theorem DO.q {t : Dq} (h : DO He K Y e t) : DQ He K Y e t := by
  obtain ⟨te, h1, h2⟩ := h
  exact ⟨te, h1, fun P Q f p k => h2 P Q f p fun ds a ys R' H' pl e hn ha hr r => k ds a ys R' H' pl e (.inl (SqL.of ha)) r⟩
theorem DO.bw {t : Dq} (h : DO He K Y e t) : DB He K Y e (xLst t) := h.ew.bw
def x2 (r : PyData → PyData → (PyData → Prop) → Prop) (ta tb : De) : De := fun env P => ta env fun x => tb env fun y => r x y P
theorem x2_run {f : Value → Value → Sem Value} {r : PyData → PyData → (PyData → Prop) → Prop} {ta tb : De} {te te' : TE} {rr : R2}
    (ha : ∀ {H0 R H : Hp} {σ : St} {env : List Dt} (P : PyData → Prop) (Q : VK), Fra He K H0 R H σ env → ta env P → (∀ d v R' H', P d → Ext R H R' H' → Rp K H' v d → Q v H') → te σ H Q)
    (hb : ∀ {H0 R H : Hp} {σ : St} {env : List Dt} (P : PyData → Prop) (Q : VK), Fra He K H0 R H σ env → tb env P → (∀ d v R' H', P d → Ext R H R' H' → Rp K H' v d → Q v H') → te' σ H Q)
    (ho : ∀ {H : Hp} {x y : V} {dx dy : PyData} (P : PyData → Prop) (Q : VK), Rp K H x dx → Rp K H y dy → r dx dy P → (∀ d v, P d → Sc v d → Q v H) → rr x y H Q)
    {H0 R H : Hp} {σ : St} {env : List Dt} (P : PyData → Prop) (Q : VK) (F : Fra He K H0 R H σ env) (p : x2 r ta tb env P) (k : ∀ d v R' H', P d → Ext R H R' H' → Rp K R' v d → Q v H') : tOp rr te te' σ H Q := by
  refine ha _ _ F p fun d v R1 H1 p1 e1 r1 => ?_
  refine hb _ _ (F.next e1) p1 fun d2 v2 R2 H2 p2 e2 r2 => ?_
  exact ho P _ (Rp.same e2.hh r1) r2 p2 fun d3 v3 p3 s3 => k d3 v3 R2 H2 p3 (e1.trans e2) (s3 K R2)
theorem de_bin {op : Operator} {r : PyData → PyData → (PyData → Prop) → Prop} {ta tb : De} (o : OD K Y (binaryOp op) r) (ha : DB He K Y a ta) (hb : DB He K Y b tb) : DE He K Y (.BinOp a op b pos) (x2 r ta tb) := by
  obtain ⟨te, h1, h2⟩ := ha
  obtain ⟨te', h3, h4⟩ := hb
  obtain ⟨rr, h5, h6⟩ := o
  exact ⟨_, fun i => pe_op (h5 i) (h1 i) (h3 i), fun P Q F p k => x2_run (f := binaryOp op) h2 h4 h6 P Q F p k⟩
theorem de_cmp {op : CmpOp} {r : PyData → PyData → (PyData → Prop) → Prop} {ta tb : De} (o : OD K Y (compareOp op) r) (ha : DB He K Y a ta) (hb : DB He K Y b tb) (hm : autoParam (behindInMarks op b = false) u10._auto_1) : DE He K Y (.Compare a [op] [b] pos) (x2 r ta tb) := by
  obtain ⟨te, h1, h2⟩ := ha
  obtain ⟨te', h3, h4⟩ := hb
  obtain ⟨rr, h5, h6⟩ := o
  exact ⟨_, fun i => pe_cmpR (h5 i) (h1 i) (h3 i) hm, fun P Q F p k => x2_run (f := compareOp op) h2 h4 h6 P Q F p k⟩
def xB (t : De) : Db := fun env P => t env fun d => ∃ b, d = .bool b ∧ P b
theorem dt_cmp {op : CmpOp} {r : PyData → PyData → (PyData → Prop) → Prop} {ta tb : De} (o : OD K Y (compareOp op) r) (ha : DB He K Y a ta) (hb : DB He K Y b tb) (hm : autoParam (behindInMarks op b = false) u10._auto_1) : DT He K Y (.Compare a [op] [b] pos) (xB (x2 r ta tb)) := by
  obtain ⟨te, h1, h2⟩ := ha
  obtain ⟨te', h3, h4⟩ := hb
  obtain ⟨rr, h5, h6⟩ := o
  refine ⟨_, fun i => pt_cmpR (h5 i) (h1 i) (h3 i) hm, fun P Q F p k => x2_run (f := compareOp op) h2 h4 h6 _ _ F p fun d v R' H' ⟨b, eb, pb⟩ e r => ?_⟩
  subst eb
  exact ⟨b, r.bl_inv, k b R' H' pb e⟩
def xChain (r r' : PyData → PyData → (PyData → Prop) → Prop) (ta tb tc : De) : De := fun env P => ta env fun x => tb env fun y => r x y fun z => ∃ k, z = .bool k ∧ if k = true then tc env fun w => r' y w P else P (.bool false)
theorem xchain_run {r r' : PyData → PyData → (PyData → Prop) → Prop} {ta tb tc : De} {te te' te'' : TE} {rr rr' : R2}
    (ha : ∀ {H0 R H : Hp} {σ : St} {env : List Dt} (P : PyData → Prop) (Q : VK), Fra He K H0 R H σ env → ta env P → (∀ d v R' H', P d → Ext R H R' H' → Rp K H' v d → Q v H') → te σ H Q)
    (hb : ∀ {H0 R H : Hp} {σ : St} {env : List Dt} (P : PyData → Prop) (Q : VK), Fra He K H0 R H σ env → tb env P → (∀ d v R' H', P d → Ext R H R' H' → Rp K H' v d → Q v H') → te' σ H Q)
    (hc : ∀ {H0 R H : Hp} {σ : St} {env : List Dt} (P : PyData → Prop) (Q : VK), Fra He K H0 R H σ env → tc env P → (∀ d v R' H', P d → Ext R H R' H' → Rp K H' v d → Q v H') → te'' σ H Q)
    (ho : ∀ {H : Hp} {x y : V} {dx dy : PyData} (P : PyData → Prop) (Q : VK), Rp K H x dx → Rp K H y dy → r dx dy P → (∀ d v, P d → Sc v d → Q v H) → rr x y H Q)
    (ho' : ∀ {H : Hp} {x y : V} {dx dy : PyData} (P : PyData → Prop) (Q : VK), Rp K H x dx → Rp K H y dy → r' dx dy P → (∀ d v, P d → Sc v d → Q v H) → rr' x y H Q)
    {H0 R H : Hp} {σ : St} {env : List Dt} (P : PyData → Prop) (Q : VK) (F : Fra He K H0 R H σ env) (p : xChain r r' ta tb tc env P) (k : ∀ d v R' H', P d → Ext R H R' H' → Rp K R' v d → Q v H') : tChain rr rr' te te' te'' σ H Q := by
  refine ha _ _ F p fun d v R1 H1 p1 e1 r1 => ?_
  refine hb _ _ (F.next e1) p1 fun d2 v2 R2 H2 p2 e2 r2 => ?_
  refine ho _ _ (Rp.same e2.hh r1) r2 p2 fun d3 v3 ⟨b, eb, p3⟩ s3 => ?_
  subst eb
  have ev := (s3 K R2).bl_inv
  subst ev
  refine ⟨b, rfl, ?_⟩
  cases b with
  | true =>
    rw [if_pos rfl] at p3 ⊢
    refine hc _ _ (F.next (e1.trans e2)) p3 fun d4 v4 R4 H4 p4 e4 r4 => ?_
    exact ho' P _ (Rp.same e4.hh r2) r4 p4 fun d5 v5 p5 s5 => k d5 v5 R4 H4 p5 ((e1.trans e2).trans e4) (s5 K R4)
  | false =>
    rw [if_neg Bool.false_ne_true] at p3 ⊢
    exact k _ _ R2 H2 p3 (e1.trans e2) (.bl false)
theorem dt_chain {op op' : CmpOp} {r r' : PyData → PyData → (PyData → Prop) → Prop} {ta tb tc : De} (o : OD K Y (compareOp op) r) (o' : OD K Y (compareOp op') r') (ha : DB He K Y a ta) (hb : DB He K Y b tb) (hc : DB He K Y c tc)
    (hm : autoParam (lastMarks [op, op'] [b, c] = false) u6._auto_1) : DT He K Y (.Compare a [op, op'] [b, c] pos) (xB (xChain r r' ta tb tc)) := by
  obtain ⟨te, h1, h2⟩ := ha
  obtain ⟨te', h3, h4⟩ := hb
  obtain ⟨te'', h7, h8⟩ := hc
  obtain ⟨rr, h5, h6⟩ := o
  obtain ⟨rr', h9, h10⟩ := o'
  refine ⟨_, fun i => pt_chain (h5 i) (h9 i) (h1 i) (h3 i) (h7 i) hm, fun P Q F p k => xchain_run h2 h4 h8 h6 h10 _ _ F p fun d v R' H' ⟨b, eb, pb⟩ e r => ?_⟩
  subst eb
  exact ⟨b, r.bl_inv, k b R' H' pb e⟩
def rdI0 (g : Int → Int → PyData) : PyData → PyData → (PyData → Prop) → Prop := fun x y P => ∃ i j, x = .int i ∧ y = .int j ∧ P (g i j)
def rdI (C : Int → Int → Prop) (g : Int → Int → PyData) : PyData → PyData → (PyData → Prop) → Prop := fun x y P => ∃ i j, x = .int i ∧ y = .int j ∧ C i j ∧ P (g i j)
theorem scInt (i : Int) : Sc (.int i) (.int i) := fun _ _ => .int i
theorem scBl (i : Bool) : Sc (.bl i) (.bool i) := fun _ _ => .bl i
theorem od_I0 {f : Value → Value → Sem Value} {g : Int → Int → V} {gd : Int → Int → PyData} (ho : ∀ i, OpR (Y i) f (rI0 g)) (hs : ∀ i j, Sc (g i j) (gd i j)) : OD K Y f (rdI0 gd) := by
  refine ⟨_, ho, fun P Q r1 r2 p k => ?_⟩
  obtain ⟨i, j, rfl, rfl, p⟩ := p
  exact ⟨i, j, r1.int_inv, r2.int_inv, k _ _ p (hs i j)⟩
theorem od_I {f : Value → Value → Sem Value} {C : Int → Int → Prop} {g : Int → Int → V} {gd : Int → Int → PyData} (ho : ∀ i, OpR (Y i) f (rI C g)) (hs : ∀ i j, Sc (g i j) (gd i j)) : OD K Y f (rdI C gd) := by
  refine ⟨_, ho, fun P Q r1 r2 p k => ?_⟩
  obtain ⟨i, j, rfl, rfl, hc, p⟩ := p
  exact ⟨i, j, r1.int_inv, r2.int_inv, hc, k _ _ p (hs i j)⟩
theorem od_add : OD K Y (binaryOp .Add) (rdI0 fun i j => .int (i + j)) := od_I0 (fun _ => op_add) fun _ _ => scInt _
theorem od_sub : OD K Y (binaryOp .Sub) (rdI0 fun i j => .int (i - j)) := od_I0 (fun _ => op_sub) fun _ _ => scInt _
theorem od_fdiv : OD K Y (binaryOp .FloorDiv) (rdI CDiv fun i j => .int (i / j)) := od_I (fun _ => op_fdiv) fun _ _ => scInt _
theorem od_mod : OD K Y (binaryOp .Mod) (rdI (fun _ j => 0 < j) fun i j => .int (i % j)) := od_I (fun _ => op_mod) fun _ _ => scInt _
theorem od_le : OD K Y (compareOp .LtE) (rdI0 fun i j => .bool (decide (i ≤ j))) := od_I0 (fun _ => op_le) fun _ _ => scBl _
theorem od_gt : OD K Y (compareOp .Gt) (rdI0 fun i j => .bool (decide (j < i))) := od_I0 (fun _ => op_gt) fun _ _ => scBl _
def okD (d : PyData) : Prop := d.canLay0 = true
def shal (d : PyData) : Prop := d.depth ≤ 9
def rdEq : PyData → PyData → (PyData → Prop) → Prop := fun x y P => okD x ∧ okD y ∧ (shal x ∨ shal y) ∧ P (.bool (PyData.eqv x y))
def rdNe : PyData → PyData → (PyData → Prop) → Prop := fun x y P => okD x ∧ okD y ∧ (shal x ∨ shal y) ∧ P (.bool (!PyData.eqv x y))
theorem od_eq (hu : ∀ i, (Y i).A.units + 10 < cLine) (hK : autoParam (∀ i, (Y i).K = K) u4._auto_1) : OD K Y (compareOp .Eq) rdEq := by
  refine ⟨_, fun i => op_eqK K (hu i) (hK i), fun P Q r1 r2 p k => ?_⟩
  obtain ⟨h1, h2, h3, p⟩ := p
  exact ⟨_, _, r1, r2, h1, h2, by unfold shal at h3; omega, k _ _ p (scBl _)⟩
theorem op_neK {X : Cx} (K : PySem.W.Frag) (hu : X.A.units + 10 < cLine) (h : autoParam (X.K = K) u5._auto_1) : OpR X (compareOp .NotEq) (fun x y H Q => ∃ dx dy, Rp K H x dx ∧ Rp K H y dy ∧ dx.canLay0 = true ∧ dy.canLay0 = true ∧ min dx.depth dy.depth ≤ 9 ∧ Q (.bl (!PyData.eqv dx dy)) H) := by
  subst h
  intro pins s σ H x y v u Q I rx ry hq
  obtain ⟨dx, dy, h1, h2, l1, l2, hd, q⟩ := hq
  obtain ⟨as, ra⟩ := I.reads h1 rx l1
  obtain ⟨bs, rb⟩ := I.reads h2 ry l2
  exact SeqAt.rcNeAt_reads ra rb l1 l2 (by omega) _ _ _ _ ⟨.bl _, H, I, rfl, q⟩
theorem od_ne (hu : ∀ i, (Y i).A.units + 10 < cLine) (hK : autoParam (∀ i, (Y i).K = K) u4._auto_1) : OD K Y (compareOp .NotEq) rdNe := by
  refine ⟨_, fun i => op_neK K (hu i) (hK i), fun P Q r1 r2 p k => ?_⟩
  obtain ⟨h1, h2, h3, p⟩ := p
  exact ⟨_, _, r1, r2, h1, h2, by unfold shal at h3; omega, k _ _ p (scBl _)⟩
def rdIn : PyData → PyData → (PyData → Prop) → Prop := fun x y P => ∃ l, seqD y = some l ∧ PyData.canLayAll0 l = true ∧ okD x ∧ shal x ∧ P (.bool (l.any fun d => PyData.eqv d x))
theorem od_in (hu : ∀ i, (Y i).A.units + 10 < cLine) (hK : autoParam (∀ i, (Y i).K = K) u4._auto_1) : OD K Y (compareOp .In) rdIn := by
  refine ⟨_, fun i => op_inK K (hu i) (hK i), fun P Q r1 r2 p k => ?_⟩
  obtain ⟨l, h1, h2, h3, h4, p⟩ := p
  obtain ⟨a, ys, rfl, h5, h6⟩ := seq_inv r2 h1
  exact ⟨a, ys, l, _, rfl, h5, h6, r1, h2, h3, h4, k _ _ p (scBl _)⟩
def isNone : PyData → Bool
  | .none => true
  | _ => false
theorem non_iff {H : Hp} {v : V} {d : PyData} (r : Rp K H v d) : decide (v = .non) = isNone d := by
  cases r <;> simp [isNone, scrD, anyD, excD]
theorem od_is : OD K Y (compareOp .Is) (fun x y P => y = .none ∧ P (.bool (isNone x))) := by
  refine ⟨_, fun i => op_isN, fun P Q r1 r2 p k => ?_⟩
  obtain ⟨rfl, p⟩ := p
  cases r2
  exact ⟨rfl, by rw [non_iff r1]; exact k _ _ p (scBl _)⟩
theorem od_isnot : OD K Y (compareOp .IsNot) (fun x y P => y = .none ∧ P (.bool (!isNone x))) := by
  refine ⟨_, fun i => op_notN, fun P Q r1 r2 p k => ?_⟩
  obtain ⟨rfl, p⟩ := p
  cases r2
  exact ⟨rfl, by rw [non_iff r1]; exact k _ _ p (scBl _)⟩
theorem dt_val {t : De} (h : DB He K Y e t) (he : autoParam (∀ i whole, isTrue e (Y i).env whole = (do let v ← whole; standAt e.pos; holding [v] (truthy v))) u11._auto_1) : DT He K Y e (xB t) := by
  obtain ⟨te, h1, h2⟩ := h
  refine ⟨_, fun i => pt_val (h1 i) (he i), fun P Q F p k => h2 _ _ F p fun d v R' H' ⟨b, eb, pb⟩ e r => ?_⟩
  subst eb
  exact ⟨b, r.bl_inv, k b R' H' pb e⟩
def xNot (t : Db) : Db := fun env P => t env fun b => P (!b)
theorem dt_not {t : Db} (h : DT He K Y a t) : DT He K Y (.UnaryOp .Not a pos) (xNot t) := by
  obtain ⟨te, h1, h2⟩ := h
  exact ⟨_, fun i => pt_not (h1 i), fun P Q F p k => h2 _ _ F p fun b R' H' pb e => k _ R' H' pb e⟩
def xAnd (t u : Db) : Db := fun env P => t env fun b => if b = true then u env P else P false
theorem dw_and1 {t : Db} (h : DT He K Y a t) : DW He K Y (.BoolOp .And [a] pos) t := by
  obtain ⟨te, h1, h2⟩ := h
  exact ⟨_, fun i => pw_and1 (h1 i), h2⟩
theorem dw_and {t u : Db} (h : DT He K Y a t) (h' : DW He K Y (.BoolOp .And (b :: es) pos) u) : DW He K Y (.BoolOp .And (a :: b :: es) pos) (xAnd t u) := by
  obtain ⟨te, h1, h2⟩ := h
  obtain ⟨te', h3, h4⟩ := h'
  refine ⟨_, fun i => pw_and (h1 i) (h3 i), fun P Q F p k => h2 _ _ F p fun b R' H' pb e => ?_⟩
  cases b with
  | true =>
    rw [if_pos rfl] at pb ⊢
    exact h4 P Q (F.next e) pb fun b R2 H2 p2 e2 => k b R2 H2 p2 (e.trans e2)
  | false =>
    rw [if_neg Bool.false_ne_true] at pb ⊢
    exact k _ R' H' pb e
theorem DW.t {t : Db} (h : DW He K Y e t) : DT He K Y e t := by
  obtain ⟨te, h1, h2⟩ := h
  exact ⟨te, fun i => (h1 i).pt, h2⟩
def xNeg (t : De) : De := fun env P => t env fun x => ∃ i, x = .int i ∧ P (.int (-i))
theorem de_neg {t : De} (h : DE He K Y a t) : DE He K Y (.UnaryOp .USub a pos) (xNeg t) := by
  obtain ⟨te, h1, h2⟩ := h
  refine ⟨_, fun i => pe_un un_neg (h1 i), fun P Q F p k => h2 _ _ F p fun d v R' H' ⟨c, ec, pc⟩ e r => ?_⟩
  subst ec
  exact ⟨c, r.int_inv, k _ _ R' H' pc e (.int _)⟩
def xIf (t : Db) (ta tb : De) : De := fun env P => t env fun b => if b = true then ta env P else tb env P
theorem de_if {t : Db} {ta tb : De} (hc : DT He K Y c t) (ha : DE He K Y a ta) (hb : DE He K Y b tb) : DE He K Y (.IfExp c a b pos) (xIf t ta tb) := by
  obtain ⟨te, h1, h2⟩ := hc
  obtain ⟨te', h3, h4⟩ := ha
  obtain ⟨te'', h5, h6⟩ := hb
  refine ⟨_, fun i => pe_ifExp (h1 i) (h3 i) (h5 i), fun P Q F p k => h2 _ _ F p fun b R' H' pb e => ?_⟩
  cases b with
  | true =>
    rw [if_pos rfl] at pb ⊢
    exact h4 P Q (F.next e) pb fun d v R2 H2 p2 e2 => k d v R2 H2 p2 (e.trans e2)
  | false =>
    rw [if_neg Bool.false_ne_true] at pb ⊢
    exact h6 P Q (F.next e) pb fun d v R2 H2 p2 e2 => k d v R2 H2 p2 (e.trans e2)
end
end L2
set_option Elab.async false
set_option linter.all false
set_option maxRecDepth 100000
namespace L2
open PySem PySem.Spec PyProof.Rows
theorem szl {n : Nat} (h : n ≤ 100000) : n ≤ sizeLine := Nat.le_trans h (by decide)
section
variable {He : Hp} {K : PySem.W.Frag} {ι : Type} {Y : ι → Cx} {e a b c : Expr} {es : List Expr} {pos : Pos}
theorem RpAll.at {R : Hp} {ys : List V} {l : List PyData} {k : Int} {d : PyData} (r : RpAll K R ys l) (h : atI l k = some d) : ∃ v, atI ys k = some v ∧ Rp K R v d := by
  unfold atI at h ⊢
  rw [r.len]
  cases q : ixN l.length k with
  | none => rw [q] at h; cases h
  | some j =>
    rw [q] at h
    exact r.get' h
def xIx (t : Dq) (ti : De) : De := fun env P => t env fun l => ti env fun i => ∃ k d, i = .int k ∧ atI l k = some d ∧ P d
theorem ix_seqK {X : Cx} (K : PySem.W.Frag) (h : autoParam (X.K = K) u5._auto_1) : IxR X (rIx K) := h ▸ ix_seq
theorem de_ix {t : Dq} {ti : De} (ha : DQ He K Y a t) (hb : DB He K Y b ti) (hs : autoParam (PlainIx b) u11._auto_1) (hK : autoParam (∀ i, (Y i).K = K) u4._auto_1) : DE He K Y (.Subscript a b pos) (xIx t ti) := by
  obtain ⟨te, h1, h2⟩ := ha
  obtain ⟨te', h3, h4⟩ := hb
  refine ⟨_, fun i => pe_ix (ix_seqK K (hK i)) (h1 i) (h3 i) hs, fun P Q F p k => ?_⟩
  refine h2 _ _ F p fun l p1 ys R1 H1 q1 e1 s1 r1 => ?_
  refine h4 _ _ (F.next e1) q1 fun d v R2 H2 q2 e2 r2 => ?_
  obtain ⟨j, d', rfl, hd, q2⟩ := q2
  have ev := r2.int_inv
  subst ev
  obtain ⟨w, hw, rw'⟩ := r1.at hd
  have fin := k d' w R2 H2 q2 (e1.trans e2) (Rp.same e2.rr rw')
  rcases e2.hh.sq s1 with z | z
  · exact .inl ⟨p1, ys, j, w, rfl, rfl, z, hw, fin⟩
  · exact .inr (.inl ⟨p1, ys, j, w, rfl, rfl, z, hw, fin⟩)
def xNil : Dq := fun _ P => P []
def xCons (t : De) (u : Dq) : Dq := fun env P => t env fun d => u env fun ds => P (d :: ds)
theorem da_nil : DA He K Y [] xNil := ⟨_, fun _ => pa_nil, fun P Q F p k => k [] [] _ _ p (.refl F.wd) .nil⟩
theorem da_cons {t : De} {u : Dq} (h : DE He K Y e t) (h' : DA He K Y es u) (hs : autoParam (∀ i, starEach (e :: es) (Y i).env = (false, eval e (Y i).env) :: starEach es (Y i).env) u4._auto_1) : DA He K Y (e :: es) (xCons t u) := by
  obtain ⟨te, h1, h2⟩ := h
  obtain ⟨te', h3, h4⟩ := h'
  refine ⟨_, fun i => pa_cons (h1 i) (h3 i) (hs i), fun P Q F p k => ?_⟩
  refine h2 _ _ F p fun d v R1 H1 q1 e1 r1 => ?_
  refine h4 _ _ (F.next e1) q1 fun ds vs R2 H2 q2 e2 r2 => ?_
  exact k _ _ R2 H2 q2 (e1.trans e2) (.cons (Rp.same e2.rr r1) r2)
def xTup (t : Dq) : De := fun env P => t env fun ds => ds.length ≤ 100000 ∧ P (.tuple ds)
theorem de_tup {t : Dq} {x1} (h : DA He K Y es t) : DE He K Y (.Tuple es x1 pos) (xTup t) := by
  obtain ⟨te, h1, h2⟩ := h
  refine ⟨_, fun i => pe_tup (h1 i), fun P Q F p k => h2 _ _ F p fun ds vs R1 H1 ⟨hl, q⟩ e1 r1 => ⟨szl (by rw [r1.len]; exact hl), fun a ha => ?_⟩⟩
  have e2 := Ext.new (o := .tup vs) e1.wd ha
  exact k _ _ _ _ q (e1.trans e2) (.tup upd_same (RpAll.same e2.rr r1))
def xDisp (t : Dq) : Dq := fun env P => t env fun ds => ds.length ≤ 100000 ∧ P ds
theorem do_lst {t : Dq} (h : DA He K Y es t) : DO He K Y (.List es pos) (xDisp t) := by
  obtain ⟨te, h1, h2⟩ := h
  refine ⟨_, fun i => pe_lst (h1 i), fun P Q F p k => h2 _ _ F p fun ds vs R1 H1 ⟨hl, q⟩ e1 r1 => ⟨szl (by rw [r1.len]; exact hl), fun a ha => ?_⟩⟩
  have e2 := Ext.newO (o := .lst vs) e1.wd ha trivial
  exact k _ _ _ _ _ q (e1.trans e2) (e1.hh.free ha) upd_same (e1.wd.rh.free ha) r1
def xLen (t : Dq) : De := fun env P => t env fun l => P (.int (l.length : Int))
theorem de_len {t : Dq} {p : Pos} (h : DQ He K Y a t) (hm : ∀ i, (Y i).mg "len" = none) (hg : autoParam (∀ i, Gl (Y i) "len") u4._auto_1) (hK : autoParam (∀ i, (Y i).K = K) u4._auto_1) (hs : autoParam (∀ i, starEach [a] (Y i).env = [(false, eval a (Y i).env)]) u4._auto_1) :
    DE He K Y (.Call (.Name "len" p) [a] [] pos) (xLen t) := by
  obtain ⟨te, h1, h2⟩ := h
  refine ⟨_, fun i => pe_callB (call_lenK K (hK i)) (hg i) (hm i) boot_len (pa_cons (h1 i) pa_nil (hs i)) (by decide) (by decide) (hs i), fun P Q F p k => h2 _ _ F p fun l x ys R1 H1 q1 e1 s1 r1 => ?_⟩
  exact ⟨x, ys, rfl, s1, by rw [r1.len]; exact k _ _ R1 H1 q1 e1 (.int _)⟩
theorem call_list_ofK {X : Cx} (K : PySem.W.Frag) (h : autoParam (X.K = K) u5._auto_1) : CallR X (.type "list") (fun xs H Q => ∃ p ys, xs = [.ref p] ∧ (SqL K H p ys ∨ SqT K H p ys) ∧ ∀ l, H l = none → Q (.ref l) (upd H l (.lst ys))) := h ▸ call_list_of
theorem do_list {t : Dq} {p : Pos} (h : DQ He K Y a t) (hm : ∀ i, (Y i).mg "list" = none) (hg : autoParam (∀ i, Gl (Y i) "list") u4._auto_1) (hK : autoParam (∀ i, (Y i).K = K) u4._auto_1) (hs : autoParam (∀ i, starEach [a] (Y i).env = [(false, eval a (Y i).env)]) u4._auto_1) :
    DO He K Y (.Call (.Name "list" p) [a] [] pos) t := by
  obtain ⟨te, h1, h2⟩ := h
  refine ⟨_, fun i => pe_callTy (call_list_ofK K (hK i)) (hg i) (hm i) boot_list (pa_cons (h1 i) pa_nil (hs i)) (by decide) (by decide) (hs i), fun P Q F p k => h2 _ _ F p fun l x ys R1 H1 q1 e1 s1 r1 => ?_⟩
  refine ⟨x, ys, rfl, s1, fun a ha => ?_⟩
  have e2 := Ext.newO (o := .lst ys) e1.wd ha trivial
  exact k _ _ _ _ _ q1 (e1.trans e2) (e1.hh.free ha) upd_same (e1.wd.rh.free ha) r1
theorem call_tuple_ofK {X : Cx} (K : PySem.W.Frag) (h : autoParam (X.K = K) u5._auto_1) : CallR X (.type "tuple") (fun xs H Q => ∃ p ys, xs = [.ref p] ∧ ((SqL K H p ys ∧ ∀ l, H l = none → Q (.ref l) (upd H l (.tup ys))) ∨ (SqT K H p ys ∧ Q (.ref p) H))) := h ▸ call_tuple_of
def xTuple (t : Dq) : De := fun env P => t env fun l => P (.tuple l)
theorem de_tuple {t : Dq} {p : Pos} (h : DO He K Y a t) (hm : ∀ i, (Y i).mg "tuple" = none) (hg : autoParam (∀ i, Gl (Y i) "tuple") u4._auto_1) (hK : autoParam (∀ i, (Y i).K = K) u4._auto_1) (hs : autoParam (∀ i, starEach [a] (Y i).env = [(false, eval a (Y i).env)]) u4._auto_1) :
    DE He K Y (.Call (.Name "tuple" p) [a] [] pos) (xTuple t) := by
  obtain ⟨te, h1, h2⟩ := h
  refine ⟨_, fun i => pe_callTy (call_tuple_ofK K (hK i)) (hg i) (hm i) boot_tuple (pa_cons (h1 i) pa_nil (hs i)) (by decide) (by decide) (hs i), fun P Q F p k => h2 _ _ F p fun l x ys R1 H1 q1 e1 hn hx hr r1 => ?_⟩
  refine ⟨x, ys, rfl, .inl ⟨SqL.of hx, fun a ha => ?_⟩⟩
  have e2 := Ext.new (o := .tup ys) e1.wd ha
  exact k _ _ _ _ q1 (e1.trans e2) (.tup upd_same (RpAll.same e2.rr r1))
theorem de_tupleV {x : Str} {p p2 : Pos} (i : Nat) (hm : ∀ i, (Y i).mg "tuple" = none) (h : autoParam (∀ j, PE (Y j) (.Name x p2) (tVar i)) u9._auto_1) (hg : autoParam (∀ i, Gl (Y i) "tuple") u4._auto_1) (hK : autoParam (∀ i, (Y i).K = K) u4._auto_1)
    (hs : autoParam (∀ i, starEach [.Name x p2] (Y i).env = [(false, eval (.Name x p2) (Y i).env)]) u4._auto_1) :
    DE He K Y (.Call (.Name "tuple" p) [.Name x p2] [] pos) (xTuple (fun env P => ∃ l, (env[i]? = some (.o l) ∨ env[i]? = some (.d (.list l))) ∧ P l)) := by
  refine ⟨_, fun i => pe_callTy (call_tuple_ofK K (hK i)) (hg i) (hm i) boot_tuple (pa_cons (h i) pa_nil (hs i)) (by decide) (by decide) (hs i), fun P Q F p k => ?_⟩
  obtain ⟨l, p1 | p1, q1⟩ := p
  · obtain ⟨v, hs, a, ys, rfl, h2, h3, h4, h5⟩ := F.get p1 (by intro z; cases z)
    refine ⟨_, hs, a, ys, rfl, .inl ⟨SqL.of h2, fun a ha => ?_⟩⟩
    have e2 := Ext.new (o := .tup ys) F.wd ha
    exact k _ _ _ _ q1 e2 (.tup upd_same (RpAll.same e2.rr h5))
  · obtain ⟨v, hs, r⟩ := F.data p1
    obtain ⟨a, ys, rfl, h2, h3⟩ := Rp.lst_inv r
    refine ⟨_, hs, a, ys, rfl, .inl ⟨SqL.of (F.wd.rh _ _ h2), fun a ha => ?_⟩⟩
    have e2 := Ext.new (o := .tup ys) F.wd ha
    exact k _ _ _ _ q1 e2 (.tup upd_same (RpAll.same e2.rr h3))
def intsD (lo : Int) (n : Nat) : List PyData := (List.range n).map fun (i : Nat) => PyData.int (lo + (i : Int))
def xCat (t u : Dq) : Dq := fun env P => t env fun xs => u env fun ys => xs.length + ys.length ≤ 100000 ∧ P (xs ++ ys)
def DL (He : Hp) (K : PySem.W.Frag) {ι : Type} (Y : ι → Cx) (e : Expr) (t : Dq) : Prop := ∃ te : TE, (∀ i, PE (Y i) e te) ∧ ∀ {H0 R H : Hp} {σ : St} {env : List Dt} (P : List PyData → Prop) (Q : VK), Fra He K H0 R H σ env → t env P →
  (∀ ds a ys R' H', P ds → Ext R H R' H' → H' a = some (.lst ys) → RpAll K R' ys ds → Q (.ref a) H') → te σ H Q
theorem DO.l {t : Dq} (h : DO He K Y e t) : DL He K Y e t := by
  obtain ⟨te, h1, h2⟩ := h
  exact ⟨te, h1, fun P Q f p k => h2 P Q f p fun ds a ys R' H' pl e hn ha hr r => k ds a ys R' H' pl e ha r⟩
def xVarL (i : Nat) : Dq := fun env P => ∃ l, (env[i]? = some (.o l) ∨ env[i]? = some (.d (.list l))) ∧ P l
theorem dl_var (i : Nat) {x : Str} (h : autoParam (∀ j, PE (Y j) (.Name x pos) (tVar i)) u9._auto_1) : DL He K Y (.Name x pos) (xVarL i) :=
  ⟨_, h, fun P Q F ⟨l, p1, p⟩ k => by
    rcases p1 with p1 | p1
    · obtain ⟨v, hs, a, ys, rfl, h2, h3, h4, h5⟩ := F.get p1 (by intro z; cases z)
      exact ⟨_, hs, k _ _ _ _ _ p (.refl F.wd) h2 h5⟩
    · obtain ⟨v, hs, r⟩ := F.data p1
      obtain ⟨a, ys, rfl, h2, h3⟩ := Rp.lst_inv r
      exact ⟨_, hs, k _ _ _ _ _ p (.refl F.wd) (F.wd.rh _ _ h2) h3⟩⟩
theorem do_cat {t u : Dq} (h : DL He K Y a t) (h' : DL He K Y b u) : DO He K Y (.BinOp a .Add b pos) (xCat t u) := by
  obtain ⟨te, h1, h2⟩ := h
  obtain ⟨te', h3, h4⟩ := h'
  refine ⟨_, fun i => pe_op op_cat (h1 i) (h3 i), fun P Q F p k => ?_⟩
  refine h2 _ _ F p fun l a ys R1 H1 q1 e1 s1 r1 => ?_
  refine h4 _ _ (F.next e1) q1 fun l2 a2 ys2 R2 H2 ⟨hz, q2⟩ e2 s2 r2 => ?_
  refine ⟨a, a2, ys, ys2, rfl, rfl, e2.hh _ _ s1, s2, szl (by rw [r1.len, r2.len]; exact hz), fun p hp => ?_⟩
  have e3 := Ext.newO (o := .lst (ys ++ ys2)) e2.wd hp trivial
  exact k _ _ _ _ _ q2 ((e1.trans e2).trans e3) ((e1.trans e2).hh.free hp) upd_same (e2.wd.rh.free hp) (RpAll.append (RpAll.same e2.rr r1) r2)
def xCatT (t u : De) : De := fun env P => t env fun x => u env fun y => ∃ xs ys, x = .tuple xs ∧ y = .tuple ys ∧ xs.length + ys.length ≤ 100000 ∧ P (.tuple (xs ++ ys))
theorem de_catT {t u : De} (h : DE He K Y a t) (h' : DE He K Y b u) : DE He K Y (.BinOp a .Add b pos) (xCatT t u) := by
  obtain ⟨te, h1, h2⟩ := h
  obtain ⟨te', h3, h4⟩ := h'
  refine ⟨_, fun i => pe_op op_catA (h1 i) (h3 i), fun P Q F p k => ?_⟩
  refine h2 _ _ F p fun l v R1 H1 q1 e1 r1 => ?_
  refine h4 _ _ (F.next e1) q1 fun l2 v2 R2 H2 ⟨xs, ys, hx, hy, hz, q2⟩ e2 r2 => ?_
  subst hx hy
  obtain ⟨a1, us, rfl, s1, w1⟩ := (Rp.same e2.rr r1).tup_inv
  obtain ⟨a2, us2, rfl, s2, w2⟩ := r2.tup_inv
  refine ⟨a1, a2, us, us2, rfl, rfl, e2.rh _ _ s1, e2.rh _ _ s2, szl (by rw [w1.len, w2.len]; exact hz), fun p H3 s3 h3 => ?_⟩
  obtain ⟨R3, e3, tk, _⟩ := Ext.grow e2.wd s3
  exact k _ _ R3 H3 q2 ((e1.trans e2).trans e3) (.tup (tk.tup _ _ h3) (RpAll.append (RpAll.same e3.rr w1) (RpAll.same e3.rr w2)))
end
def spG (K : PySem.W.Frag) (P : List PyData → (Dt → Prop) → Prop) : Sp := fun vs H Q _ => ∃ ds RS, RpAll K H vs ds ∧ P ds RS ∧ ∀ dt v R' H', RS dt → Ext H H R' H' → SlotR K H R' H' (some v) dt → Q v H'
theorem ObjOk.obj {P : Program} {w : World} {H : Hp} {h : Heap} {a : Addr} {o : HO} (x : ObjOk P w H h a o) (l : Loose o) : ∃ ob, h.get? a = some ob := by
  cases o with
  | lst xs => obtain ⟨_, _, _, _, e⟩ := x; exact ⟨_, e⟩
  | dK kvs => obtain ⟨_, _, _, _, o, _, _, e, _⟩ := x; exact ⟨_, e⟩
  | dT kvs => obtain ⟨_, _, _, _, o, _, _, e, _⟩ := x; exact ⟨_, e⟩
  | set S n => obtain ⟨o, _, _, _, e, _⟩ := x; exact ⟨_, e⟩
  | _ => exact l.elim
theorem ObjOk.stayL {P : Program} {w : World} {H H' : Hp} {h h' : Heap} {a : Addr} {o : HO} (x : ObjOk P w H h a o) (l : Loose o) (k : ∀ u, h.get? a = some u → h'.get? a = some u) (ht : ∀ b xs, H b = some (.tup xs) → H' b = some (.tup xs)) : ObjOk P w H' h' a o := by
  cases o with
  | lst xs => obtain ⟨z, its, n, r, e⟩ := x; exact ⟨z, its, n, r, k _ e⟩
  | dK kvs => obtain ⟨z, y, vs, r, ob, es, ep, e, c⟩ := x; exact ⟨z, y, vs, r, ob, es, ep, k _ e, c⟩
  | dT kvs =>
    obtain ⟨z, y, xs, r, ob, es, ep, e, c⟩ := x
    exact ⟨z, y, xs, Paired.mapP r fun p q z => ⟨z.1, ht _ _ z.2.1, z.2.2⟩, ob, es, ep, k _ e, c⟩
  | set S n => obtain ⟨ob, es, ep, t, e, c⟩ := x; exact ⟨ob, es, ep, t, k _ e, c⟩
  | _ => exact l.elim
theorem Wd.back {R H : Hp} {b : Addr} {o : HO} (w : Wd R H) (h : H b = some o) (n : ¬ Loose o) : R b = some o := by
  cases q : R b with
  | none => exact absurd (w.ls b o h q) n
  | some u =>
    have := w.rh b u q
    rw [h] at this
    exact this.symm
section
variable {X : Cx} {k : Nat} {f : Addr} {fd : FuncData} {ps : List Str} {x : Str} {p pos : Pos} {e : Expr} {es : List Expr} {t : TA} {He : Hp} {K : PySem.W.Frag} {P : List PyData → (Dt → Prop) → Prop}
theorem run_fnG {pins : List (Addr × Obj)} {σ : St} {R H : Hp} {s : Shared} {Q : VK} {us : List Value} {vs : List V} {ds : List PyData} {RS : Dt → Prop} (hK : X.K = K) (F : FnOk X.prog X.w X.K X.mg X.base CX0 k f fd ps (spG K P)) (hr : Room k X.A) (hb : Binds X.K fd ps [])
    (I : Inv X pins σ H s) (r : Vals vs us) (w : Wd R H) (hv : RpAll K R vs ds) (hp : P ds RS) (kk : ∀ dt v R' H', RS dt → Ext R H R' H' → SlotR K H R' H' (some v) dt → Q v H') :
    wpAny (model X.prog X.w) X.A (call (.ref f) us) (EP X pins σ Q) X.xe s := by
  have hsp : spG K P vs R (fun v H1 => ∃ dt R', RS dt ∧ Ext R R R' H1 ∧ SlotR K R R' H1 (some v) dt) E0 := ⟨ds, RS, hv, hp, fun dt v R' H' a b c => ⟨dt, R', a, b, c⟩⟩
  have hl : us.length = ps.length := by rw [← r.length]; exact F.len _ _ _ _ hsp
  have e0 : Env0 X.prog X.w X.K X.mg X.base X.A X.stack s R := by
    have e := I.env0
    refine ⟨e.frames, e.mod, fun b o z => ⟨(e.bs b o z).1, w.rh.free (e.bs b o z).2⟩, e.bsz, e.funs, fun b hb => w.rh.free (e.frf b hb), fun a o z => ?_, e.bare⟩
    exact (e.hok a o (w.rh a o z)).stay (fun b u _ q => q) (fun b q => w.back q fun z => z) fun b xs q => w.back q fun z => z
  refine wpAny_call (codeAny_mono (F.run X.A X.stack s R ⟨us, []⟩ us vs _ E0 hr e0 (by have := hb s us I.kIn (by rw [List.append_nil]; exact hl); rw [List.append_nil] at this; exact this) r hsp) fun r s' hq => ?_)
  cases r with
  | error e => exact hq.elim
  | ok fl =>
    cases fl with
    | next => exact False.elim hq
    | brk => exact False.elim hq
    | cont => exact False.elim hq
    | ret u =>
      obtain ⟨v, H1, os, bare, un, hok, rv, dt, R', hRS, ext, slot⟩ := hq
      have gone : ∀ b o, H b = some o → R b = none → H1 b = none := fun b o z n => by
        obtain ⟨ob, eb⟩ := (I.hok b o z).obj (w.ls b o z n)
        exact un.free b ob eb n (by simp)
      classical
      have eA : ∀ b, R b = none → H b ≠ none → (fun b => if R b = none ∧ H b ≠ none then H b else H1 b) b = H b := fun b n z => if_pos ⟨n, z⟩
      have eB : ∀ b o, H1 b = some o → (fun b => if R b = none ∧ H b ≠ none then H b else H1 b) b = some o := fun b o z => by
        show (if R b = none ∧ H b ≠ none then H b else H1 b) = some o
        rw [if_neg]
        · exact z
        · rintro ⟨n, hne⟩
          cases q : H b with
          | none => exact hne q
          | some u => rw [gone b u q n] at z; cases z
      have eN : ∀ b, H b = none → H1 b = none → (fun b => if R b = none ∧ H b ≠ none then H b else H1 b) b = none := fun b n z => by
        show (if R b = none ∧ H b ≠ none then H b else H1 b) = none
        rw [if_neg (by rintro ⟨_, z⟩; exact z n)]
        exact z
      have eX : ∀ b o, (fun b => if R b = none ∧ H b ≠ none then H b else H1 b) b = some o → (R b = none ∧ H b = some o) ∨ H1 b = some o := fun b o z => by
        have z : (if R b = none ∧ H b ≠ none then H b else H1 b) = some o := z
        split at z
        · rename_i hc
          exact .inl ⟨hc.1, z⟩
        · exact .inr z
      generalize (fun b => if R b = none ∧ H b ≠ none then H b else H1 b) = H2 at eA eB eN eX
      have nr : ∀ b, H b = none → R b = none := fun b n => w.rh.free n
      have tup2 : ∀ b xs, H b = some (.tup xs) → H2 b = some (.tup xs) := fun b xs z => eB b _ (un.tups b xs (w.back z fun z => z))
      have ex2 : Ext R H R' H2 := by
        refine ⟨fun b o z => ?_, ext.rr, fun b o z => eB b o (ext.rh b o z), fun b o z n => ?_, fun b o z n => ?_⟩
        · cases q : R b with
          | none => rw [eA b q (by rw [z]; intro y; cases y)]; exact z
          | some u =>
            have := w.rh b u q
            rw [z] at this; cases this
            exact eB b o (ext.hh b o q)
        · cases q : R' b with
          | none => rfl
          | some u => have := ext.rh b u q; rw [gone b o z n] at this; cases this
        · rcases eX b o z with ⟨n2, z2⟩ | z2
          · exact w.ls b o z2 n2
          · exact ext.ls b o z2 n
      have slot2 : SlotR K H R' H2 (some v) dt := by
        have own : ∀ a o, H1 a = some o → R a = none → H a = none := fun a o z n => by
          cases q : H a with
          | none => rfl
          | some u => rw [gone a u q n] at z; cases z
        cases dt with
        | un => trivial
        | d y => exact slot
        | o xs => obtain ⟨a, ys, h1, h2, h3, h4, h5⟩ := slot; exact ⟨a, ys, h1, eB a _ h2, h3, own a _ h2 h4, h5⟩
        | dk xs => obtain ⟨a, ys, h1, h2, h3, h4, h5⟩ := slot; exact ⟨a, ys, h1, eB a _ h2, h3, own a _ h2 h4, h5⟩
        | dt xs => obtain ⟨a, ys, h1, h2, h3, h4, h5⟩ := slot; exact ⟨a, ys, h1, eB a _ h2, h3, own a _ h2 h4, h5⟩
        | oo xs => obtain ⟨a, ys, h1, h2, h3, h4, h5, h6⟩ := slot; exact ⟨a, ys, h1, eB a _ h2, h3, own a _ h2 h4, Paired.mapP h5 fun _ _ ⟨b, zs, k1, k2, k3, k4, k5⟩ => ⟨b, zs, k1, eB b _ k2, k3, own b _ k2 k4, k5⟩, h6⟩
      refine I.after (Q := Q) ⟨v, H2, os, bare, ⟨?_, ?_, ?_, un.there, tup2, ?_, ?_⟩, ?_, rv, kk dt v R' H2 hRS ex2 slot2⟩
      · exact fun b o z n hf hx => un.keep b o z (nr b n) hf hx
      · exact fun b o z n hf hx => un.slot b o z (nr b n) hf hx
      · exact fun b o z n hx => eN b n (un.free b o z (nr b n) hx)
      · exact fun b o u z => eB b _ (un.frzs b o u (w.back z fun z => z))
      · intro b ps z
        obtain ⟨m, hm⟩ := un.tbls b ps (w.back z fun z => z)
        exact ⟨m, eB b _ hm⟩
      · intro b o z
        rcases eX b o z with ⟨n2, z2⟩ | z2
        · refine (I.hok b o z2).stayL (w.ls b o z2 n2) (fun u q => un.keep b u q n2 (fun hf => ?_) (by simp)) tup2
          rw [I.stkFree b hf] at z2; cases z2
        · refine (hok b o z2).stay (fun c u _ q => q) (fun c q => eB c _ q) fun c xs q => eB c _ q
def tFnG (K : PySem.W.Frag) (P : List PyData → (Dt → Prop) → Prop) (t : TA) : TE := fun σ H Q => t σ H fun vs H1 => ∃ R ds RS, Wd R H1 ∧ RpAll K R vs ds ∧ P ds RS ∧ ∀ dt v R' H', RS dt → Ext R H1 R' H' → SlotR K H1 R' H' (some v) dt → Q v H'
theorem pe_fnG (G : Fn X.prog X.w X.K X.mg X.base x k ps (spG K P)) (hr : Room k X.A) (ha : PA X (e :: es) t) (hK : autoParam (X.K = K) u5._auto_1) (hg : autoParam (Gl X x) u5._auto_1)
    (hdb : autoParam ((x == ("__debug__" : Str)) = false) u2._auto_1) (he : autoParam (starEach (e :: es) X.env = (false, eval e X.env) :: starEach es X.env) u5._auto_1) (hpl : autoParam ((backTo pos (starEach es X.env)).any (·.1) = false) u5._auto_1) :
    PE X (.Call (.Name x p) (e :: es) [] pos) (tFnG K P t) := by
  obtain ⟨f, fd, F, hm, hk, hb⟩ := G
  intro pins s σ H Q I h
  refine wpAny_Call_Name_kw (ld_glob I hg hm ?_ hdb)
  refine PySem.W.callWith_K (h₀ := X.base) I.ok.mod.kin hk (thn (ha pos pins s σ H _ I h) fun us s1 ⟨vs, H1, I1, r, q⟩ => ⟨I1.kIn, ?_⟩) he hpl
  obtain ⟨R, ds, RS, w, hv, hp, kk⟩ := q
  exact run_fnG hK F hr hb I1 r w hv hp kk
end
section
variable {He : Hp} {K : PySem.W.Frag} {ι : Type} {Y : ι → Cx} {e : Expr} {es : List Expr} {pos p : Pos} {prog : Program} {w : World} {mg : Str → Option Value} {base : Heap} {x : Str} {k : Nat} {ps : List Str} {P : List PyData → (Dt → Prop) → Prop} {t : Dq}
def xCall (P : List PyData → (Dt → Prop) → Prop) (t : Dq) : De := fun env Q => t env fun ds => P ds fun dt => ∃ d, frzD dt = some d ∧ Q d
theorem Ext.give {R H R' H' : Hp} (ex : Ext R H R' H') (S : Addr → Prop) (hS : ∀ b, S b → H b = none) : ∃ R2, Ext R H R2 H' ∧ Same R' R2 ∧ ∀ b, S b → R2 b = H' b := by
  classical
  have e1 : ∀ b, S b → (fun b => if S b then H' b else R' b) b = H' b := fun b s => if_pos s
  have e2 : ∀ b, ¬ S b → (fun b => if S b then H' b else R' b) b = R' b := fun b s => if_neg s
  generalize (fun b => if S b then H' b else R' b) = R2 at e1 e2
  have sm : Same R' R2 := fun b o z => by
    by_cases s : S b
    · rw [e1 b s]; exact ex.rh b o z
    · rw [e2 b s]; exact z
  refine ⟨R2, ⟨ex.hh, ex.rr.trans sm, fun b o z => ?_, fun b o z n => ?_, fun b o z n => ?_⟩, sm, e1⟩
  · by_cases s : S b
    · rw [e1 b s] at z; exact z
    · rw [e2 b s] at z; exact ex.rh b o z
  · have s : ¬ S b := fun s => by rw [hS b s] at z; cases z
    rw [e2 b s]; exact ex.nn b o z n
  · by_cases s : S b
    · rw [e1 b s, z] at n; cases n
    · rw [e2 b s] at n; exact ex.ls b o z n
theorem frz_run {H0 R H R' H' : Hp} {v : V} {dt : Dt} {d : PyData} (hd : frzD dt = some d) (ex : Ext R H R' H') (s : SlotR K H R' H' (some v) dt) : ∃ R2, Ext R H R2 H' ∧ Rp K R2 v d := by
  cases dt with
  | un => cases hd
  | d y => cases hd; exact ⟨R', ex, s⟩
  | o xs =>
    cases hd
    obtain ⟨a, ys, rfl, h2, h3, h4, h5⟩ := s
    have s := Same.new (H := R') (p := a) (o := .lst ys) h3
    refine ⟨upd R' a (.lst ys), ⟨ex.hh, ex.rr.trans s, fun b o z => ?_, fun b o z n => ?_, fun b o z n => ?_⟩, .lst upd_same (RpAll.same s h5)⟩
    · by_cases hb : b = a
      · subst hb; rw [upd_same] at z; cases z; exact h2
      · rw [upd_ne hb] at z; exact ex.rh b o z
    · rw [upd_ne (ne_of_none z h4)]; exact ex.nn b o z n
    · by_cases hb : b = a
      · subst hb; rw [upd_same] at n; cases n
      · rw [upd_ne hb] at n; exact ex.ls b o z n
  | oo xs =>
    cases hd
    obtain ⟨a, ys, rfl, h2, h3, h4, h5, _⟩ := s
    obtain ⟨R2, e2, sm, at2⟩ := ex.give (fun b => b = a ∨ V.ref b ∈ ys) fun b s => by
      rcases s with rfl | s
      · exact h4
      · obtain ⟨_, _, _, z⟩ := h5.mem s; exact z
    exact ⟨R2, e2, .lst (by rw [at2 a (.inl rfl)]; exact h2) (h5.rp sm fun b zs m z => by rw [at2 b (.inr m)]; exact z)⟩
  | dk xs => cases hd
  | dt xs => cases hd
theorem de_call (G : Fn prog w K mg base x k ps (spG K P)) (hr : ∀ i, Room k (Y i).A) (ha : DA He K Y (e :: es) t) (hX : autoParam (∀ i, (Y i).prog = prog ∧ (Y i).w = w ∧ (Y i).K = K ∧ (Y i).mg = mg ∧ (Y i).base = base) u12._auto_1) (hg : autoParam (∀ i, Gl (Y i) x) u4._auto_1)
    (hdb : autoParam ((x == ("__debug__" : Str)) = false) u2._auto_1) (he : autoParam (∀ i, starEach (e :: es) (Y i).env = (false, eval e (Y i).env) :: starEach es (Y i).env) u4._auto_1) (hpl : autoParam (∀ i, (backTo pos (starEach es (Y i).env)).any (·.1) = false) u4._auto_1) :
    DE He K Y (.Call (.Name x p) (e :: es) [] pos) (xCall P t) := by
  obtain ⟨te, h1, h2⟩ := ha
  refine ⟨tFnG K P te, fun i => ?_, fun Pk Q F pp kk => h2 _ _ F pp fun ds vs R1 H1 q1 e1 r1 => ⟨R1, ds, _, e1.wd, r1, q1, fun dt v R' H' ⟨d, hd, pd⟩ ex sl => ?_⟩⟩
  · obtain ⟨a1, a2, a3, a4, a5⟩ := hX i
    subst a1 a2 a3 a4 a5
    exact pe_fnG G (hr i) (h1 i) rfl (hg i) hdb (he i) (hpl i)
  · obtain ⟨R2, ex2, r2⟩ := frz_run (H0 := R1) hd ex sl
    exact kk d v R2 H' pd (e1.trans ex2) r2
def xCallO (P : List PyData → (Dt → Prop) → Prop) (t : Dq) : Dq := fun env Q => t env fun ds => P ds fun dt => ∃ xs, dt = .o xs ∧ Q xs
theorem do_call (G : Fn prog w K mg base x k ps (spG K P)) (hr : ∀ i, Room k (Y i).A) (ha : DA He K Y (e :: es) t) (hX : autoParam (∀ i, (Y i).prog = prog ∧ (Y i).w = w ∧ (Y i).K = K ∧ (Y i).mg = mg ∧ (Y i).base = base) u12._auto_1) (hg : autoParam (∀ i, Gl (Y i) x) u4._auto_1)
    (hdb : autoParam ((x == ("__debug__" : Str)) = false) u2._auto_1) (he : autoParam (∀ i, starEach (e :: es) (Y i).env = (false, eval e (Y i).env) :: starEach es (Y i).env) u4._auto_1) (hpl : autoParam (∀ i, (backTo pos (starEach es (Y i).env)).any (·.1) = false) u4._auto_1) :
    DO He K Y (.Call (.Name x p) (e :: es) [] pos) (xCallO P t) := by
  obtain ⟨te, h1, h2⟩ := ha
  refine ⟨tFnG K P te, fun i => ?_, fun Pk Q F pp kk => h2 _ _ F pp fun ds vs R1 H1 q1 e1 r1 => ⟨R1, ds, _, e1.wd, r1, q1, fun dt v R' H' ⟨xs, hd, pd⟩ ex sl => ?_⟩⟩
  · obtain ⟨a1, a2, a3, a4, a5⟩ := hX i
    subst a1 a2 a3 a4 a5
    exact pe_fnG G (hr i) (h1 i) rfl (hg i) hdb (he i) (hpl i)
  · subst hd
    obtain ⟨a, ys, rfl, h5, h6, h7, h8⟩ := sl
    exact kk xs a ys R' H' pd (e1.trans ex) (e1.hh.free h7) h5 h6 h8
end
end L2
set_option Elab.async false
set_option linter.all false
set_option maxRecDepth 100000
namespace L2
open PySem PySem.Spec PyProof.Rows
structure Yld (K : PySem.W.Frag) (J : It) (R : Hp) (l : List PyData) : Prop where
  go : ∀ R1 H1 i, Same R R1 → Wd R1 H1 → i < l.length → J.go i H1
  yl : ∀ R1 H1 i d x H2, Same R R1 → Wd R1 H1 → l[i]? = some d → J.yld i H1 x H2 → ∃ R2, Ext R1 H1 R2 H2 ∧ Rp K R2 x d
  st : ∀ R1 H1, Same R R1 → Wd R1 H1 → J.stop l.length H1
section
variable (He : Hp) (K : PySem.W.Frag) {ι : Type} (Y : ι → Cx)
def DI (tg iter : Expr) (t : Dq) : Prop := ∃ wi : TI, (∀ i, PI (Y i) tg iter wi) ∧ ∀ {H0 R H : Hp} {σ : St} {env : List Dt} (P : List PyData → Prop) (Q : It → Hp → Prop), Fra He K H0 R H σ env → t env P →
  (∀ l J R' H', P l → Ext R H R' H' → l.length ≤ sizeLine → Yld K J R' l → Q J H') → wi σ H Q
abbrev Dg := PyData → List Dt → (List Dt → Prop) → Prop
def Agree (ts : List Nat) (σ σ' : St) : Prop := σ'.length = σ.length ∧ ∀ k, k ∉ ts → σ'[k]? = σ[k]?
def DG (tg : Expr) (ts : List Nat) (g : Dg) : Prop := ∃ gt : TG, (∀ i, PG (Y i) tg gt) ∧ ∀ {H0 R H : Hp} {σ : St} {env : List Dt} {d : PyData} {v : V} (P : List Dt → Prop) (Q : St → Hp → Prop), Fra He K H0 R H σ env → Rp K R v d → g d env P →
  (∀ env' σ', P env' → Fra He K H0 R H σ' env' → Agree ts σ σ' → Q σ' H) → gt v σ H Q
def DIf (ifs : List Expr) (t : Db) : Prop := ∃ te : TT, (∀ i, PIf (Y i) ifs te) ∧ ∀ {H0 R H : Hp} {σ : St} {env : List Dt} (P : Bool → Prop) (Q : Bool → Hp → Prop), Fra He K H0 R H σ env → t env P →
  (∀ b R' H', P b → Ext R H R' H' → Q b H') → te σ H Q
end
section
variable {He : Hp} {K : PySem.W.Frag} {ι : Type} {Y : ι → Cx} {e a b c tg iter elt : Expr} {es ifs : List Expr} {pos : Pos}
def iSeqZ (K : PySem.W.Frag) (tl : TE) : TI := fun σ H R => tl σ H fun x H1 => ∃ a xs, x = .ref a ∧ ((SqL K H1 a xs ∧ (xs.length ≤ sizeLine → R (Itl K a) H1)) ∨ (SqT K H1 a xs ∧ (xs.length ≤ sizeLine → R (Itt K a) H1)))
theorem pi_seqZ {X : Cx} {l : Expr} {tl : TE} (K : PySem.W.Frag) (hl : PE X l tl) (hK : autoParam (X.K = K) u5._auto_1) : PI X tg l (iSeqZ K tl) := by
  subst hK
  intro pins s σ H R I h
  refine thn (hl pins s σ H _ I h) fun v s1 ⟨x, H1, I1, r1, q1⟩ => ?_
  obtain ⟨a, xs, e, q⟩ := q1
  subst e
  cases r1
  rcases q with ⟨hq, q⟩ | ⟨hq, q⟩
  · obtain ⟨its, rv, p, hz⟩ := I1.list hq
    refine wpAny_pyIter_list p.isList ?_
    refine ⟨s1.heap.objs.size, [s1.heap.objs.size], _, _, H1, rfl, I1.kept (t' := s1.toks) fun b o e => Heap.get?_push_of_some _ e, turn_list a _, ⟨_, Heap.get?_push_size _ rfl, rfl, rfl⟩, fun b hb => ?_, q hz⟩
    have e : b = s1.heap.objs.size := by simpa using hb
    subst e
    exact I1.fpOk (Nat.le_refl _) (I1.hok.fresh (Nat.le_refl _))
  · obtain ⟨its, rv, p, hz⟩ := I1.tuple hq
    refine wpAny_pyIter_tuple (show s1.heap.IsTuple a its.toArray from p) ?_
    refine ⟨s1.heap.objs.size, [s1.heap.objs.size], _, _, H1, rfl, I1.kept (t' := s1.toks) fun b o e => Heap.get?_push_of_some _ e, turn_tuple a _, ⟨_, Heap.get?_push_size _ rfl, rfl, rfl⟩, fun b hb => ?_, q hz⟩
    have e : b = s1.heap.objs.size := by simpa using hb
    subst e
    exact I1.fpOk (Nat.le_refl _) (I1.hok.fresh (Nat.le_refl _))
theorem RpAll.some {R : Hp} {ys : List V} {l : List PyData} {i : Nat} (r : RpAll K R ys l) (h : i < l.length) : ∃ v, ys[i]? = some v := by
  have hl := r.len
  exact ⟨ys[i]'(by omega), by simp [show i < ys.length by omega]⟩
theorem yld_list {R : Hp} {a : Addr} {ys : List V} {l : List PyData} (h : SqL K R a ys) (r : RpAll K R ys l) : Yld K (Itl K a) R l := by
  refine ⟨fun R1 H1 i s w hi => ?_, fun R1 H1 i d x H2 s w hd y => ?_, fun R1 H1 s w => ?_⟩
  · obtain ⟨v, hv⟩ := r.some hi
    exact ⟨ys, v, (s.trans w.rh).seq h, hv⟩
  · obtain ⟨e, y⟩ := y
    subst e
    have z := y ys ((s.trans w.rh).seq h)
    obtain ⟨d', hd', r'⟩ := r.get z
    rw [hd] at hd'; cases hd'
    exact ⟨R1, .refl w, Rp.same s r'⟩
  · exact ⟨ys, (s.trans w.rh).seq h, by rw [r.len]; exact Nat.le_refl _⟩
theorem yld_tup {R : Hp} {a : Addr} {ys : List V} {l : List PyData} (h : SqT K R a ys) (r : RpAll K R ys l) : Yld K (Itt K a) R l := by
  refine ⟨fun R1 H1 i s w hi => ?_, fun R1 H1 i d x H2 s w hd y => ?_, fun R1 H1 s w => ?_⟩
  · obtain ⟨v, hv⟩ := r.some hi
    exact ⟨ys, v, (s.trans w.rh).seqT h, hv⟩
  · obtain ⟨e, y⟩ := y
    subst e
    have z := y ys ((s.trans w.rh).seqT h)
    obtain ⟨d', hd', r'⟩ := r.get z
    rw [hd] at hd'; cases hd'
    exact ⟨R1, .refl w, Rp.same s r'⟩
  · exact ⟨ys, (s.trans w.rh).seqT h, by rw [r.len]; exact Nat.le_refl _⟩
theorem di_seq {t : De} (h : DE He K Y e t) (hK : autoParam (∀ i, (Y i).K = K) u4._auto_1) : DI He K Y tg e (xSeq t) := by
  obtain ⟨te, h1, h2⟩ := h
  refine ⟨_, fun i => pi_seqZ K (h1 i) (hK i), fun P Q F p k => h2 _ _ F p fun d v R' H' ⟨l, hl, pl⟩ ex r => ?_⟩
  obtain ⟨a, ys, rfl, h3, h4⟩ := seq_inv r hl
  refine ⟨a, ys, rfl, ?_⟩
  rcases h3 with h3 | h3
  · exact .inl ⟨ex.rh.seq h3, fun hz => k l _ R' H' pl ex (by rw [← h4.len]; exact hz) (yld_list h3 h4)⟩
  · exact .inr ⟨ex.rh.seqT h3, fun hz => k l _ R' H' pl ex (by rw [← h4.len]; exact hz) (yld_tup h3 h4)⟩
theorem ints_get {lo : Int} {n i : Nat} {d : PyData} (h : (intsD lo n)[i]? = some d) : i < n ∧ d = .int (lo + (i : Int)) := by
  unfold intsD at h
  rw [List.getElem?_map] at h
  obtain ⟨j, hj, rfl⟩ := Option.map_eq_some_iff.mp h
  obtain ⟨h1, h2⟩ := List.getElem?_eq_some_iff.mp hj
  rw [List.length_range] at h1
  rw [List.getElem_range] at h2
  subst h2
  exact ⟨h1, rfl⟩
theorem ints_len (lo : Int) (n : Nat) : (intsD lo n).length = n := by unfold intsD; rw [List.length_map, List.length_range]
theorem yld_rng (R : Hp) (lo : Int) (n : Nat) : Yld K (Itr lo n) R (intsD lo n) := by
  refine ⟨fun R1 H1 i s w hi => ?_, fun R1 H1 i d x H2 s w hd y => ?_, fun R1 H1 s w => ?_⟩
  · rw [ints_len] at hi; exact hi
  · obtain ⟨_, rfl⟩ := ints_get hd
    obtain ⟨e, y⟩ := y
    subst e y
    exact ⟨R1, .refl w, .int _⟩
  · rw [ints_len]; exact Nat.le_refl _
def xRange1 (t : De) : Dq := fun env P => t env fun d => ∃ j : Int, d = .int j ∧ -(2 ^ 62) ≤ j ∧ j ≤ 100000 ∧ P (intsD 0 j.toNat)
theorem di_range1 {t : De} {p : Pos} (h : DB He K Y a t) (hm : ∀ i, (Y i).mg "range" = none) (hg : autoParam (∀ i, Gl (Y i) "range") u4._auto_1) (hs : autoParam (∀ i, starEach [a] (Y i).env = [(false, eval a (Y i).env)]) u4._auto_1) : DI He K Y tg (.Call (.Name "range" p) [a] [] pos) (xRange1 t) := by
  obtain ⟨te, h1, h2⟩ := h
  refine ⟨_, fun i => pi_range1 (hg i) (hm i) (pa_cons (h1 i) pa_nil (hs i)) (hs i), fun P Q F p k => h2 _ _ F p fun d v R' H' ⟨j, hj, b1, b2, pl⟩ ex r => ?_⟩
  subst hj
  have ev := r.int_inv
  subst ev
  exact ⟨j, rfl, b1, by omega, k _ _ R' H' pl ex (by rw [ints_len]; exact szl (by omega)) (yld_rng R' 0 _)⟩
theorem agree_set (i : Nat) (x : Option V) (σ : St) : Agree [i] σ (σ.set i x) := by
  refine ⟨by simp, fun k hk => ?_⟩
  have hk : k ≠ i := by simpa using hk
  rw [List.getElem?_set_ne (fun z => hk z.symm)]
def gN (i : Nat) : Dg := fun d env P => P (env.set i (.d d))
theorem dg_name (i : Nat) {x : Str} (hN : ∀ j, (Y j).N.Nodup) (hi : autoParam (∀ j, (Y j).N[i]? = some x) u4._auto_1) (hx : autoParam (∀ j, Loc (Y j).env.scope x) u13._auto_1)
    (hf : autoParam (∀ j, (Y j).fn x = true ∨ (Y j).env.scope.names.lookup x = some .local) u14._auto_1) : DG He K Y (.Name x pos) [i] (gN i) :=
  ⟨_, fun j => pg_name (hN j) (hi j) (hx j) (hf j), fun P Q F r p k => k _ _ p (F.setD i r) (agree_set i _ _)⟩
theorem pg_tupK {X : Cx} {es : List Expr} {k : Nat} {t : TGs} {n : Nat} (K : PySem.W.Frag) (hK : X.K = K) (hc : X.calm = true) (h : PGs X es t) (hn : (assignEach es X.env).length = n) (hst : (assignEach es X.env).findIdx? (·.1) = none) : PG X (.Tuple es k pos) (gTup K n t) := hK ▸ pg_tup hc h hn hst
def gN2 (i j : Nat) : Dg := fun d env P => ∃ x y, d = .tuple [x, y] ∧ P ((env.set i (.d x)).set j (.d y))
theorem dg_tup2 (i j : Nat) {x y : Str} {p1 p2 : Pos} {k : Nat} (hN : ∀ j, (Y j).N.Nodup) (hi : autoParam (∀ k, (Y k).N[i]? = some x) u4._auto_1) (hj : autoParam (∀ k, (Y k).N[j]? = some y) u4._auto_1) (hx : autoParam (∀ j, Loc (Y j).env.scope x) u13._auto_1) (hy : autoParam (∀ j, Loc (Y j).env.scope y) u13._auto_1)
    (hfx : autoParam (∀ j, (Y j).fn x = true ∨ (Y j).env.scope.names.lookup x = some .local) u14._auto_1) (hfy : autoParam (∀ j, (Y j).fn y = true ∨ (Y j).env.scope.names.lookup y = some .local) u14._auto_1)
    (hc : autoParam (∀ j, (Y j).calm = true) u4._auto_1) (hK : autoParam (∀ i, (Y i).K = K) u4._auto_1)
    (ha1 : autoParam (∀ k, (assignEach [.Name x p1, .Name y p2] (Y k).env).map (·.2) = assign (.Name x p1) (Y k).env :: (assignEach [.Name y p2] (Y k).env).map (·.2)) u4._auto_1) (ha2 : autoParam (∀ k, (assignEach [.Name y p2] (Y k).env).map (·.2) = assign (.Name y p2) (Y k).env :: (assignEach [] (Y k).env).map (·.2)) u4._auto_1)
    (hn : autoParam (∀ k, (assignEach [.Name x p1, .Name y p2] (Y k).env).length = 2) u4._auto_1) (hst : autoParam (∀ k, (assignEach [.Name x p1, .Name y p2] (Y k).env).findIdx? (·.1) = none) u4._auto_1) :
    DG He K Y (.Tuple [.Name x p1, .Name y p2] k pos) [i, j] (gN2 i j) := by
  refine ⟨_, fun m => pg_tupK K (hK m) (hc m) (pgs_cons (pg_name (hN m) (hi m) (hx m) (hfx m)) (pgs_cons (pg_name (hN m) (hj m) (hy m) (hfy m)) pgs_nil (ha2 m)) (ha1 m)) (hn m) (hst m), fun P Q F r p k => ?_⟩
  obtain ⟨u, w, rfl, p⟩ := p
  obtain ⟨a, xs, rfl, h1, h2⟩ := r.tup_inv
  cases h2 with
  | cons r1 h3 =>
    cases h3 with
    | cons r2 h4 =>
      cases h4
      refine ⟨a, _, rfl, SqT.of (F.wd.rh _ _ h1), rfl, _, _, rfl, _, _, rfl, rfl, ?_⟩
      refine k _ _ p ((F.setD i r1).setD j r2) ?_
      obtain ⟨a1, a2⟩ := agree_set i (some _) _
      obtain ⟨b1, b2⟩ := agree_set j (some _) _
      exact ⟨b1.trans a1, fun m hm => (b2 m (by simp at hm ⊢; exact hm.2)).trans (a2 m (by simp at hm ⊢; exact hm.1))⟩
abbrev Yc {ι : Type} (Y : ι → Cx) (scope : Scope) (N' : List Str) : ι × Shared × Hp × List Addr → Cx := fun p => cxComp (Y p.1) scope N' p.2.1 p.2.2.1 p.2.2.2
def xTrue : Db := fun _ P => P true
theorem dif_nil : DIf He K Y [] xTrue := ⟨_, fun _ => pif_nil, fun P Q F p k => k true _ _ p (.refl F.wd)⟩
theorem dif_one {t : Db} (h : DT He K Y c t) : DIf He K Y [c] t := by
  obtain ⟨te, h1, h2⟩ := h
  exact ⟨te, fun i => pif_one (h1 i), h2⟩
inductive LcR (G : PyData → Option PyData → Prop) : List PyData → List PyData → Prop where
  | nil : LcR G [] []
  | skip {y : PyData} {l o : List PyData} : G y none → LcR G l o → LcR G (y :: l) o
  | keep {y z : PyData} {l o : List PyData} : G y (some z) → LcR G l o → LcR G (y :: l) (z :: o)
theorem LcR.snoc_skip {G : PyData → Option PyData → Prop} {y : PyData} (h : G y none) : ∀ {l o : List PyData}, LcR G l o → LcR G (l ++ [y]) o
  | _, _, .nil => .skip h .nil
  | _, _, .skip a b => .skip a (b.snoc_skip h)
  | _, _, .keep a b => .keep a (b.snoc_skip h)
theorem LcR.snoc_keep {G : PyData → Option PyData → Prop} {y z : PyData} (h : G y (some z)) : ∀ {l o : List PyData}, LcR G l o → LcR G (l ++ [y]) (o ++ [z])
  | _, _, .nil => .keep h .nil
  | _, _, .skip a b => .skip a (b.snoc_keep h)
  | _, _, .keep a b => .keep a (b.snoc_keep h)
def capD (env : List Dt) (js : List (Option Nat)) : List Dt := js.map fun (o : Option Nat) => match o with
  | none => .un
  | some j => (env[j]?).getD .un
def capInj : List (Option Nat) → Bool
  | [] => true
  | none :: r => capInj r
  | some j :: r => !r.contains (some j) && capInj r
theorem capInj_spec : ∀ {js : List (Option Nat)}, capInj js = true → ∀ (k k' j : Nat), js[k]? = some (some j) → js[k']? = some (some j) → k = k'
  | [], _, k, _, j, h, _ => by simp at h
  | none :: r, hc, k, k', j, h, h' => by
    cases k with
    | zero => simp at h
    | succ k =>
      cases k' with
      | zero => simp at h'
      | succ k' => rw [capInj_spec (js := r) hc k k' j (by simpa using h) (by simpa using h')]
  | some i :: r, hc, k, k', j, h, h' => by
    have hc : _ ∧ _ := Bool.and_eq_true_iff.mp hc
    have nc : some i ∉ r := by simpa using hc.1
    cases k with
    | zero =>
      cases k' with
      | zero => rfl
      | succ k' =>
        have e : i = j := by simpa using h
        subst e
        exact absurd (List.mem_of_getElem? (show r[k']? = some (some i) by simpa using h')) nc
    | succ k =>
      cases k' with
      | zero =>
        have e : i = j := by simpa using h'
        subst e
        exact absurd (List.mem_of_getElem? (show r[k]? = some (some i) by simpa using h)) nc
      | succ k' => rw [capInj_spec (js := r) hc.2 k k' j (by simpa using h) (by simpa using h')]
theorem cap_get {env : List Dt} {js : List (Option Nat)} {k : Nat} {d : Dt} (h : (capD env js)[k]? = some d) : d = .un ∨ ∃ j, js[k]? = some (some j) ∧ env[j]? = some d := by
  unfold capD at h
  rw [List.getElem?_map] at h
  obtain ⟨o, ho, e⟩ := Option.map_eq_some_iff.mp h
  cases o with
  | none => exact .inl e.symm
  | some j =>
    cases q : env[j]? with
    | none => simp only [q, Option.getD_none] at e; exact .inl e.symm
    | some d' => simp only [q, Option.getD_some] at e; subst e; exact .inr ⟨j, ho, q⟩
theorem capSt_get {σ : St} {js : List (Option Nat)} {k j : Nat} (h : js[k]? = some (some j)) : (capSt σ js)[k]? = some (σ[j]?).join := by
  unfold capSt
  rw [List.getElem?_map, h]
  rfl
theorem Fra.cap {H0 R H : Hp} {σ : St} {env : List Dt} {js : List (Option Nat)} (f : Fra He K H0 R H σ env) (hj : capInj js = true) : Fra He K H0 R H (capSt σ js) (capD env js) := by
  refine ⟨f.at0, f.ext, by simp [capSt, capD], fun k d h => ?_, fun k k' dk dk' a h h' o o' => ?_⟩
  · rcases cap_get h with rfl | ⟨j, hj, e⟩
    · cases ((capSt σ js)[k]?).join <;> trivial
    · rw [capSt_get hj]
      exact f.slot j d e
  · rcases cap_get h with rfl | ⟨j, hjk, e⟩
    · cases o
    · rcases cap_get h' with rfl | ⟨j', hjk', e'⟩
      · cases o'
      · rw [capSt_get hjk] at o
        rw [capSt_get hjk'] at o'
        have ej := f.apart j j' dk dk' a e e' o o'
        subst ej
        exact capInj_spec hj k k' j hjk hjk'
theorem Fra.agree {H0 R H : Hp} {σ σ' : St} {env : List Dt} {ts : List Nat} (f : Fra He K H0 R H σ env) (ha : Agree ts σ σ') (hu : ∀ k ∈ ts, ∀ (d : Dt), env[k]? = some d → d = .un) : Fra He K H0 R H σ' env := by
  refine ⟨f.at0, f.ext, ha.1.trans f.len, fun k d h => ?_, fun k k' dk dk' a h h' o o' => ?_⟩
  · by_cases hk : k ∈ ts
    · rw [hu k hk d h]
      cases (σ'[k]?).join <;> trivial
    · rw [ha.2 k hk]; exact f.slot k d h
  · have n1 : k ∉ ts := fun z => by rw [hu k z dk h] at o; cases o
    have n2 : k' ∉ ts := fun z => by rw [hu k' z dk' h'] at o'; cases o'
    rw [ha.2 k n1] at o
    rw [ha.2 k' n2] at o'
    exact f.apart k k' dk dk' a h h' o o'
theorem Fra.other {H0 R H : Hp} {σ : St} {env : List Dt} {D : Addr} {o : HO} (f : Fra He K H0 R H σ env) (h0 : H0 D = none) (hr : R D = none) (lo : Loose o) (hne : ∀ (k : Nat) (d : Dt), env[k]? = some d → ¬ d.has H (σ[k]?).join D) : Fra He K H0 R (upd H D o) σ env := by
  have w := Wd.mut (o := o) f.wd hr lo
  refine ⟨f.at0, ⟨f.ext.hh.put h0, f.ext.rr, w.rh, f.ext.nn, w.ls⟩, f.len, fun k d h => (f.slot k d h).mut (hne k d h), fun k j dk dj b ek ej ok oj => f.apart k j dk dj b ek ej ((f.slot k dk ek).hasMut (hne k dk ek) ok) ((f.slot j dj ej).hasMut (hne j dj ej) oj)⟩
theorem Ext.mut {R H R1 H1 : Hp} {p : Addr} {o : HO} (e : Ext R H R1 H1) (h : H p = none) (hr : R1 p = none) (lo : Loose o) : Ext R H R1 (upd H1 p o) := by
  have w := Wd.mut (o := o) e.wd hr lo
  exact ⟨e.hh.put h, e.rr, w.rh, e.nn, w.ls⟩
def xLC (js : List (Option Nat)) (ti : Dq) (g : Dg) (tc : Db) (te : De) : Dq := fun env P => ti env fun l => ∃ G : PyData → Option PyData → Prop,
  (∀ y ∈ l, g y (capD env js) fun env1 => tc env1 fun b => if b = true then te env1 fun z => G y (some z) else G y none) ∧ ∀ o, LcR G l o → P o
variable {scope : Scope} {N' : List Str} {js : List (Option Nat)} {ts : List Nat}
theorem lc_run {ti : Dq} {g : Dg} {tc : Db} {te : De} {wi : TI} {gt : TG} {ct : TT} {et : TE}
    (hi : ∀ {H0 R H : Hp} {σ : St} {env : List Dt} (P : List PyData → Prop) (Q : It → Hp → Prop), Fra He K H0 R H σ env → ti env P → (∀ l J R' H', P l → Ext R H R' H' → l.length ≤ sizeLine → Yld K J R' l → Q J H') → wi σ H Q)
    (hg : ∀ {H0 R H : Hp} {σ : St} {env : List Dt} {d : PyData} {v : V} (P : List Dt → Prop) (Q : St → Hp → Prop), Fra He K H0 R H σ env → Rp K R v d → g d env P → (∀ env' σ', P env' → Fra He K H0 R H σ' env' → Agree ts σ σ' → Q σ' H) → gt v σ H Q)
    (hc : ∀ {H0 R H : Hp} {σ : St} {env : List Dt} (P : Bool → Prop) (Q : Bool → Hp → Prop), Fra He K H0 R H σ env → tc env P → (∀ b R' H', P b → Ext R H R' H' → Q b H') → ct σ H Q)
    (he : ∀ {H0 R H : Hp} {σ : St} {env : List Dt} (P : PyData → Prop) (Q : VK), Fra He K H0 R H σ env → te env P → (∀ d v R' H', P d → Ext R H R' H' → Rp K R' v d → Q v H') → et σ H Q)
    (hj : capInj js = true) (hts : ∀ k ∈ ts, js[k]? = some none ∨ js[k]? = none)
    {H0 R H : Hp} {σ : St} {env : List Dt} (P : List PyData → Prop) (Q : VK) (F : Fra He K H0 R H σ env) (p : xLC js ti g tc te env P)
    (k : ∀ ds a ys R' H', P ds → Ext R H R' H' → H a = none → H' a = some (.lst ys) → R' a = none → RpAll K R' ys ds → Q (.ref a) H') : tLC js wi gt ct et σ H Q := by
  refine hi _ _ F p fun l J R1 H1 ⟨G, hG, hP⟩ e1 hz yd D hD => ?_
  have hD0 : H0 D = none := F.ext.hh.free (e1.hh.free hD)
  have hDR : R1 D = none := e1.wd.rh.free hD
  have F1 := (F.next e1).cap hj
  have un : ∀ k ∈ ts, ∀ (d : Dt), (capD env js)[k]? = some d → d = .un := fun m hm d hd => by
    rcases cap_get hd with z | ⟨j, z, _⟩
    · exact z
    · rcases hts m hm with q | q
      · rw [q] at z; cases z
      · rw [q] at z; cases z
  have ne1 : ∀ (m : Nat) (d : Dt), (capD env js)[m]? = some d → ¬ d.has H1 ((capSt σ js)[m]?).join D := fun m d h z => by
    obtain ⟨u, h2, _⟩ := (F1.slot m d h).hasAt z
    rw [hD] at h2; cases h2
  refine ⟨fun i m σ1 acc H2 => m = l.length - i ∧ i ≤ l.length ∧ ∃ R2 outs, Fra He K H0 R2 H2 σ1 (capD env js) ∧ Ext R1 H1 R2 H2 ∧ H2 D = some (.lst acc) ∧ R2 D = none ∧ RpAll K R2 acc outs ∧ LcR G (l.take i) outs ∧ acc.length ≤ i ∧
    ∀ (m : Nat) (d : Dt), (capD env js)[m]? = some d → ¬ d.has H2 (σ1[m]?).join D, ⟨l.length, by simp, Nat.zero_le _, R1, [], ?_, ?_, upd_same, hDR, .nil, .nil, Nat.le_refl _, fun m d h z => ne1 m d h ((F1.slot m d h).hasMut (ne1 m d h) z)⟩, ?_⟩
  · exact F1.other hD0 hDR trivial ne1
  · exact (Ext.refl e1.wd).mut hD hDR trivial
  · rintro i m σ1 acc H2 ⟨rfl, hi', R2, outs, F2, e2, hD2, hR2, ra, lc, hl, ne2⟩
    by_cases hlt : i < l.length
    · refine .inr ⟨yd.go R2 H2 i e2.rr e2.wd hlt, _, fun σ' acc' H' n' => ⟨l.length - (i + 1), by omega, rfl, hlt, n'⟩, fun x H3 y => ?_⟩
      have hd : l[i]? = some l[i] := by simp [hlt]
      obtain ⟨R3, e3, r3⟩ := yd.yl R2 H2 i l[i] x H3 e2.rr e2.wd hd y
      have F3 := F2.next e3
      have tk : l.take (i + 1) = l.take i ++ [l[i]] := by rw [List.take_add_one, hd]; rfl
      refine hg _ _ F3 r3 (hG l[i] (List.getElem_mem hlt)) fun env4 σ4 p4 F4 ag => ?_
      have F3' : Fra He K H0 R3 H3 σ4 (capD env js) := F3.agree ag un
      have ne4 : ∀ (H' : Hp), Same H3 H' → ∀ (m : Nat) (d : Dt), (capD env js)[m]? = some d → ¬ d.has H' (σ4[m]?).join D := fun H' s m d h z => by
        have z := (F3'.slot m d h).hasNext (fun a ys _ q => s a _ q) z
        rw [ag.2 m fun z' => by rw [un m z' d h] at z; cases z] at z
        exact ne2 m d h ((F2.slot m d h).hasNext (fun a ys _ q => e3.hh a _ q) z)
      refine hc _ _ F4 p4 fun b R5 H5 p5 e5 => ?_
      cases b with
      | false =>
        rw [if_neg Bool.false_ne_true] at p5 ⊢
        have ee := e3.trans e5
        exact ⟨R5, outs, F3'.next e5, e2.trans ee, ee.hh _ _ hD2, ee.nn _ _ hD2 hR2, RpAll.same ee.rr ra, by rw [tk]; exact lc.snoc_skip p5, by omega, ne4 H5 e5.hh⟩
      | true =>
        rw [if_pos rfl] at p5 ⊢
        refine he _ _ (F4.next e5) p5 fun z v R6 H6 p6 e6 r6 => ?_
        have ee := e3.trans (e5.trans e6)
        have hD6 := ee.hh _ _ hD2
        have hR6 := ee.nn _ _ hD2 hR2
        have F6 := F3'.next (e5.trans e6)
        have ne6 := ne4 H6 (e5.trans e6).hh
        refine ⟨hD6, by omega, R6, outs ++ [z], F6.other hD0 hR6 trivial ne6, (e2.trans ee).mut hD hR6 trivial, upd_same, hR6, RpAll.append (RpAll.same ee.rr ra) (.one r6), by rw [tk]; exact lc.snoc_keep p6, by rw [List.length_append, List.length_singleton]; omega, fun m d h z => ne6 m d h ((F6.slot m d h).hasMut (ne6 m d h) z)⟩
    · have e : i = l.length := by omega
      subst e
      rw [List.take_length] at lc
      exact .inl ⟨yd.st R2 H2 e2.rr e2.wd, k outs D acc R2 H2 (hP outs lc) (e1.trans e2) (e1.hh.free hD) hD2 hR2 ra⟩
theorem do_lc {ti : Dq} {g : Dg} {tc : Db} {te : De} (caps : ∀ i, Caps (Y i) scope N' js) (hi : DI He K Y tg iter ti) (hg : DG He K (Yc Y scope N') tg ts g) (hc : DIf He K (Yc Y scope N') ifs tc) (he : DE He K (Yc Y scope N') elt te)
    (hj : autoParam (capInj js = true) u5._auto_1) (hts : autoParam (∀ k ∈ ts, js[k]? = some none ∨ js[k]? = none) u15._auto_1)
    (hcalm : autoParam (∀ i, (Y i).calm = true) u4._auto_1)
    (hfb : autoParam (∀ i, (scope.names.all fun p => p.2 != NameKind.free || ((Y i).env.scope.names.lookup p.1 == some .cell || (Y i).env.scope.names.lookup p.1 == some .free)) = true) u4._auto_1)
    (hnb : autoParam ((scope.names.all fun p => p.2 != NameKind.local || scope.names.lookup p.1 == some .local) = true) u5._auto_1)
    (hkind : autoParam (scope.kind = .function) u5._auto_1)
    (hs : autoParam (∀ i x, foldedSetIterable iter (Y i).env x = pure x) u11._auto_1) : DO He K Y (.ListComp elt [⟨tg, iter, ifs, 0⟩] scope pos) (xLC js ti g tc te) := by
  obtain ⟨wi, i1, i2⟩ := hi
  obtain ⟨gt, g1, g2⟩ := hg
  obtain ⟨ct, c1, c2⟩ := hc
  obtain ⟨et, e1, e2⟩ := he
  exact ⟨_, fun i => pe_lcomp (hcalm i) (caps i) (i1 i) (fun s H fp => g1 (i, s, H, fp)) (fun s H fp => c1 (i, s, H, fp)) (fun s H fp => e1 (i, s, H, fp)) (hfb i) hnb hkind (hs i), fun P Q F p k => lc_run i2 g2 c2 e2 hj hts P Q F p k⟩
structure DEnds where
  nx : List Dt → Prop
  rt : Dt → Prop
  bk : List Dt → Prop := fun _ => False
  ct : List Dt → Prop := fun _ => False
structure Cov (He : Hp) (K : PySem.W.Frag) (H0 R0 : Hp) (D : DEnds) (E : Ends) : Prop where
  nx : ∀ env' R' H' σ', D.nx env' → Same R0 R' → Fra He K H0 R' H' σ' env' → E.nx σ' H'
  rt : ∀ dt v R' H', D.rt dt → Ext H0 H0 R' H' → SlotR K H0 R' H' (some v) dt → E.rt v H'
  bk : ∀ env' R' H' σ', D.bk env' → Same R0 R' → Fra He K H0 R' H' σ' env' → E.bk σ' H'
  ct : ∀ env' R' H' σ', D.ct env' → Same R0 R' → Fra He K H0 R' H' σ' env' → E.ct σ' H'
abbrev Ds := DEnds → List Dt → Prop
def DS (He : Hp) (K : PySem.W.Frag) {ι : Type} (Y : ι → Cx) (st : Stmt) (t : Ds) : Prop := ∃ ts : TS, (∀ i, PS (Y i) st ts) ∧ ∀ {H0 R0 R H : Hp} {σ : St} {env : List Dt} (D : DEnds) (E : Ends), Fra He K H0 R H σ env → Same R0 R → Cov He K H0 R0 D E → t D env → ts E σ H
def DSs (He : Hp) (K : PySem.W.Frag) {ι : Type} (Y : ι → Cx) (st : List Stmt) (t : Ds) : Prop := ∃ ts : TS, (∀ i, PSs (Y i) st ts) ∧ ∀ {H0 R0 R H : Hp} {σ : St} {env : List Dt} (D : DEnds) (E : Ends), Fra He K H0 R H σ env → Same R0 R → Cov He K H0 R0 D E → t D env → ts E σ H
variable {st : Stmt} {rest : List Stmt}
def sNext : Ds := fun D env => D.nx env
def sSeq (t u : Ds) : Ds := fun D env => t { D with nx := u D } env
theorem dss_nil : DSs He K Y [] sNext := ⟨_, fun _ => pss_nil, fun D E F s c p => c.nx _ _ _ _ p s F⟩
theorem dss_cons {t u : Ds} (h : DS He K Y st t) (h' : DSs He K Y rest u) : DSs He K Y (st :: rest) (sSeq t u) := by
  obtain ⟨a, a1, a2⟩ := h
  obtain ⟨b, b1, b2⟩ := h'
  exact ⟨_, fun i => pss_cons (a1 i) (b1 i), fun D E F s c p => a2 { D with nx := u D } _ F s ⟨fun env' R' H' σ' q s' F' => b2 D E F' s' c q, c.rt, c.bk, c.ct⟩ p⟩
theorem dss_one {t : Ds} (h : DS He K Y st t) : DSs He K Y [st] t := by
  obtain ⟨a, a1, a2⟩ := h
  exact ⟨_, fun i => pss_one (a1 i), a2⟩
def sNever : Ds := fun _ _ => False
theorem ds_never : DS He K Y st sNever := ⟨_, fun _ => ps_never, fun _ _ _ _ _ p => p.elim⟩
def sFrz (i : Nat) (t : Ds) : Ds := fun D env => ∃ xs, env[i]? = some (.o xs) ∧ t D (env.set i (.d (.list xs)))
theorem DSs.frz {sts : List Stmt} {t : Ds} (i : Nat) (h : DSs He K Y sts t) : DSs He K Y sts (sFrz i t) := by
  obtain ⟨a, a1, a2⟩ := h
  refine ⟨a, a1, fun D E F s c ⟨xs, e, p⟩ => ?_⟩
  obtain ⟨R', s', F'⟩ := F.frz e
  exact a2 D E F' (s.trans s') c p
def sSet (i : Nat) (t : De) : Ds := fun D env => t env fun d => D.nx (env.set i (.d d))
theorem ds_set (i : Nat) {x : Str} {t : De} {pos' : Pos} (hN : ∀ j, (Y j).N.Nodup) (h : DE He K Y e t) (hi : autoParam (∀ j, (Y j).N[i]? = some x) u4._auto_1) (hx : autoParam (∀ j, Loc (Y j).env.scope x) u13._auto_1)
    (hs : autoParam (∀ j, swapsWith e (some (.Name x pos')) pos.line (Y j).env = pure false) u4._auto_1) (hf : autoParam (∀ j, (Y j).fn x = true ∨ (Y j).env.scope.names.lookup x = some .local) u14._auto_1) :
    DS He K Y (.Assign [.Name x pos'] e pos) (sSet i t) := by
  obtain ⟨a, a1, a2⟩ := h
  exact ⟨_, fun j => ps_set (hN j) (hi j) (hx j) (a1 j) (hs j) (hf j), fun D E F s c p => a2 _ _ F p fun d v R' H' q e r => c.nx _ _ _ _ q (s.trans e.rr) ((F.next e).setD i r)⟩
def sSetO (i : Nat) (t : Dq) : Ds := fun D env => t env fun l => D.nx (env.set i (.o l))
theorem setlc_run {i : Nat} {t : Dq} {tl : TE} (ho : ∀ {H0 R H : Hp} {σ : St} {env : List Dt} (P : List PyData → Prop) (Q : VK), Fra He K H0 R H σ env → t env P →
    (∀ ds a ys R' H', P ds → Ext R H R' H' → H a = none → H' a = some (.lst ys) → R' a = none → RpAll K R' ys ds → Q (.ref a) H') → tl σ H Q)
    {H0 R0 R H : Hp} {σ : St} {env : List Dt} (D : DEnds) (E : Ends) (F : Fra He K H0 R H σ env) (s : Same R0 R) (c : Cov He K H0 R0 D E) (p : sSetO i t D env) : tAsg tl (gName i) E σ H :=
  ho _ _ F p fun l a ys R' H' q e hn ha hr r => c.nx _ _ _ _ q (s.trans e.rr) (F.setN e i hn ⟨a, ys, rfl, ha, hr, F.ext.hh.free hn, r⟩)
theorem ds_setO (i : Nat) {x : Str} {t : Dq} {pos' : Pos} (hN : ∀ j, (Y j).N.Nodup) (h : DO He K Y e t) (hi : autoParam (∀ j, (Y j).N[i]? = some x) u4._auto_1) (hx : autoParam (∀ j, Loc (Y j).env.scope x) u13._auto_1)
    (hs : autoParam (∀ j, swapsWith e (some (.Name x pos')) pos.line (Y j).env = pure false) u4._auto_1) (hf : autoParam (∀ j, (Y j).fn x = true ∨ (Y j).env.scope.names.lookup x = some .local) u14._auto_1) :
    DS He K Y (.Assign [.Name x pos'] e pos) (sSetO i t) := by
  obtain ⟨a, a1, a2⟩ := h
  exact ⟨_, fun j => ps_set (hN j) (hi j) (hx j) (a1 j) (hs j) (hf j), fun D E F s c p => setlc_run a2 D E F s c p⟩
theorem ds_setlc (i : Nat) {x : Str} {ti : Dq} {g : Dg} {tc : Db} {te : De} {pos' spos : Pos} (hN : ∀ j, (Y j).N.Nodup) (caps : ∀ i, Caps (Y i) scope N' js) (hi : DI He K Y tg iter ti) (hg : DG He K (Yc Y scope N') tg ts g) (hc : DIf He K (Yc Y scope N') ifs tc) (he : DE He K (Yc Y scope N') elt te)
    (hix : autoParam (∀ j, (Y j).N[i]? = some x) u4._auto_1) (hx : autoParam (∀ j, Loc (Y j).env.scope x) u13._auto_1)
    (hj : autoParam (capInj js = true) u5._auto_1) (hts : autoParam (∀ k ∈ ts, js[k]? = some none ∨ js[k]? = none) u15._auto_1)
    (hcalm : autoParam (∀ i, (Y i).calm = true) u4._auto_1)
    (hfb : autoParam (∀ i, (scope.names.all fun p => p.2 != NameKind.free || ((Y i).env.scope.names.lookup p.1 == some .cell || (Y i).env.scope.names.lookup p.1 == some .free)) = true) u4._auto_1)
    (hnb : autoParam ((scope.names.all fun p => p.2 != NameKind.local || scope.names.lookup p.1 == some .local) = true) u5._auto_1)
    (hsw : autoParam (∀ j, swapsWith (.ListComp elt [⟨tg, iter, ifs, 0⟩] scope pos) (some (.Name x pos')) spos.line (Y j).env = pure true) u4._auto_1)
    (hkind : autoParam (scope.kind = .function) u5._auto_1) (hs : autoParam (∀ i x, foldedSetIterable iter (Y i).env x = pure x) u11._auto_1)
    (hf : autoParam (∀ j, (Y j).fn x = true ∨ (Y j).env.scope.names.lookup x = some .local) u14._auto_1) :
    DS He K Y (.Assign [.Name x pos'] (.ListComp elt [⟨tg, iter, ifs, 0⟩] scope pos) spos) (sSetO i (xLC js ti g tc te)) := by
  obtain ⟨wi, i1, i2⟩ := hi
  obtain ⟨gt, g1, g2⟩ := hg
  obtain ⟨ct, c1, c2⟩ := hc
  obtain ⟨et, e1, e2⟩ := he
  exact ⟨_, fun m => ps_setlc (i := i) (hcalm m) (caps m) (i1 m) (fun s H fp => g1 (m, s, H, fp)) (fun s H fp => c1 (m, s, H, fp)) (fun s H fp => e1 (m, s, H, fp)) (hN m) (hix m) (hx m) (hfb m) hnb (hsw m) hkind (hs m) (hf m),
    fun D E F s c p => setlc_run (fun P Q F p k => lc_run i2 g2 c2 e2 hj hts P Q F p k) D E F s c p⟩
def sRet (t : De) : Ds := fun D env => t env fun d => D.rt (.d d)
theorem ds_ret {t : De} (h : DE He K Y e t) : DS He K Y (.Return (some e) pos) (sRet t) := by
  obtain ⟨a, a1, a2⟩ := h
  exact ⟨_, fun j => ps_ret (a1 j), fun D E F s c p => a2 _ _ F p fun d v R' H' q e r => c.rt _ _ R' H' q (F.ext.trans e) r⟩
def sRetO (t : Dq) : Ds := fun D env => t env fun l => D.rt (.o l)
theorem ds_retO {t : Dq} (h : DO He K Y e t) : DS He K Y (.Return (some e) pos) (sRetO t) := by
  obtain ⟨a, a1, a2⟩ := h
  exact ⟨_, fun j => ps_ret (a1 j), fun D E F s c p => a2 _ _ F p fun l a ys R' H' q e hn ha hr r => c.rt _ _ R' H' q (F.ext.trans e) ⟨a, ys, rfl, ha, hr, F.ext.hh.free hn, r⟩⟩
def sRetV (i : Nat) : Ds := fun D env => ∃ dt, env[i]? = some dt ∧ dt ≠ .un ∧ D.rt dt
theorem ds_retV (i : Nat) {x : Str} {p2 : Pos} (h : autoParam (∀ j, PE (Y j) (.Name x p2) (tVar i)) u9._auto_1) : DS He K Y (.Return (some (.Name x p2)) pos) (sRetV i) :=
  ⟨_, fun j => ps_ret (h j), fun D E F s c ⟨dt, e, hu, q⟩ => by
    obtain ⟨v, h1, h2⟩ := F.get e hu
    exact ⟨v, h1, c.rt dt v _ _ q F.ext h2⟩⟩
def sIf (t : Db) (u w : Ds) : Ds := fun D env => t env fun b => if b = true then u D env else w D env
theorem ds_if {t : Db} {u w : Ds} {th el : List Stmt} (hc : DT He K Y c t) (h1 : DSs He K Y th u) (h2 : DSs He K Y el w) : DS He K Y (.If c th el pos) (sIf t u w) := by
  obtain ⟨a, a1, a2⟩ := hc
  obtain ⟨b, b1, b2⟩ := h1
  obtain ⟨d, d1, d2⟩ := h2
  refine ⟨_, fun j => ps_if (a1 j) (b1 j) (d1 j), fun D E F s c p => a2 _ _ F p fun b R' H' q e => ?_⟩
  cases b with
  | true =>
    rw [if_pos rfl] at q ⊢
    exact b2 D E (F.next e) (s.trans e.rr) c q
  | false =>
    rw [if_neg Bool.false_ne_true] at q ⊢
    exact d2 D E (F.next e) (s.trans e.rr) c q
def sFor (ti : Dq) (g : Dg) (tb : Ds) : Ds := fun D env => ti env fun l => ∃ I : Nat → List Dt → Prop, I 0 env ∧
  (∀ (k : Nat) (y : PyData) (env1 : List Dt), l[k]? = some y → I k env1 → g y env1 fun env2 => tb { nx := I (k + 1), rt := D.rt, bk := D.nx, ct := I (k + 1) } env2) ∧ ∀ env1, I l.length env1 → D.nx env1
theorem ds_for {ti : Dq} {g : Dg} {tb : Ds} {body : List Stmt} (hp : ∀ i, PassesOwn (model (Y i).prog (Y i).w) (Y i).A (Y i).env (Y i).xe) (hi : DI He K Y tg iter ti) (hg : DG He K Y tg ts g) (hb : DSs He K Y body tb) (hc : autoParam (∀ i, (Y i).calm = true) u4._auto_1)
    (hs : autoParam (∀ i x, foldedSetIterable iter (Y i).env x = pure x) u11._auto_1) : DS He K Y (.For tg iter body [] pos) (sFor ti g tb) := by
  obtain ⟨wi, i1, i2⟩ := hi
  obtain ⟨gt, g1, g2⟩ := hg
  obtain ⟨bt, b1, b2⟩ := hb
  refine ⟨_, fun m => ps_for (hp m) (hc m) (i1 m) (g1 m) (b1 m) (hs m), fun {H0 R0 R H σ env} D E F s c p => i2 _ _ F p fun l J R1 H1 ⟨I, h0, hs, hd⟩ e1 hz yd => ?_⟩
  have s1 : Same R0 R1 := s.trans e1.rr
  refine ⟨fun i m σ2 H2 => m = l.length - i ∧ i ≤ l.length ∧ ∃ R2 env2, Fra He K H0 R2 H2 σ2 env2 ∧ Same R1 R2 ∧ I i env2, ⟨l.length, by simp, Nat.zero_le _, R1, env, F.next e1, Same.refl R1, h0⟩, ?_⟩
  rintro i m σ2 H2 ⟨rfl, hi', R2, env2, F2, s2, p2⟩
  by_cases hlt : i < l.length
  · refine .inr ⟨yd.go R2 H2 i s2 F2.wd hlt, fun σ' H' => ∃ R2 env2, Fra He K H0 R2 H' σ' env2 ∧ Same R1 R2 ∧ I (i + 1) env2, fun σ' H' n' => ⟨l.length - (i + 1), by omega, rfl, hlt, n'⟩, fun x H3 y => ?_⟩
    have hd' : l[i]? = some l[i] := by simp [hlt]
    obtain ⟨R3, e3, r3⟩ := yd.yl R2 H2 i l[i] x H3 s2 F2.wd hd' y
    refine g2 _ _ (F2.next e3) r3 (hs i l[i] env2 hd' p2) fun env4 σ4 p4 F4 _ => ?_
    refine b2 (R0 := R1) { nx := I (i + 1), rt := D.rt, bk := D.nx, ct := I (i + 1) } _ F4 (s2.trans e3.rr) ⟨fun env' R' H' σ' q s' F' => ⟨R', env', F', s', q⟩, c.rt, fun env' R' H' σ' q s' F' => c.nx _ _ _ _ q (s1.trans s') F', fun env' R' H' σ' q s' F' => ⟨R', env', F', s', q⟩⟩ p4
  · have e : i = l.length := by omega
    subst e
    exact .inl ⟨yd.st R2 H2 s2 F2.wd, c.nx _ _ _ _ (hd env2 p2) (s1.trans s2) F2⟩
def sApp (i : Nat) (t : De) : Ds := fun D env => ∃ xs, env[i]? = some (.o xs) ∧ t env fun d => xs.length < 100000 ∧ D.nx (env.set i (.o (xs ++ [d])))
theorem Fra.lstAt {H0 R H : Hp} {σ : St} {env : List Dt} {i : Nat} {xs : List PyData} (F : Fra He K H0 R H σ env) (h : env[i]? = some (.o xs)) : ∃ a ys, σ[i]? = some (some (.ref a)) ∧ H a = some (.lst ys) ∧ R a = none ∧ H0 a = none ∧ RpAll K R ys xs := by
  obtain ⟨v, hs, a, ys, rfl, h2, h3, h4, h5⟩ := F.get h (by intro z; cases z)
  exact ⟨a, ys, hs, h2, h3, h4, h5⟩
theorem Fra.lstSet {H0 R H : Hp} {σ : St} {env : List Dt} {i : Nat} {xs xs' : List PyData} {a : Addr} {ys' : List V} (F : Fra He K H0 R H σ env) (h : env[i]? = some (.o xs)) (hs : σ[i]? = some (some (.ref a))) (h3 : R a = none) (h4 : H0 a = none) (h5 : RpAll K R ys' xs') : Fra He K H0 R (upd H a (.lst ys')) σ (env.set i (.o xs')) :=
  F.mut h rfl hs trivial ⟨a, ys', rfl, upd_same, h3, h4, h5⟩
theorem szlt' {n : Nat} (h : n ≤ 100000) : n < sizeLine := Nat.lt_of_le_of_lt h (by decide)
theorem pe_bmK {X : Cx} {o e : Expr} {es : List Expr} {to : TE} {t : TA} {name : Str} {apos cpos : Pos} {T id : String} {r : V → List V → Hp → VK → Prop} (K : PySem.W.Frag) (hK : X.K = K) (pa : PlainAttrs T) (slot : Slot T name id) (hty : typeOf (.builtin id) = pure (.type "method_descriptor")) (hm : MtR X id r) (ho : PE X o to) (ha : PA X (e :: es) t)
    (hbase : attributeBase o name X.env (eval o X.env) = eval o X.env)
    (hfew : ((backTo cpos (starEach (e :: es) X.env)).all (fun x => !x.1) && (backToKw cpos (keywordEach [] X.env)).all (fun x => x.1.isSome)
      && decide ((e :: es).length + ([] : List Keyword).length + (if ([] : List Keyword).isEmpty then 0 else 1) < 30)) = true)
    (hline : (apos.endLine == cpos.line) = true) (hs : starEach (e :: es) X.env = (false, eval e X.env) :: starEach es X.env) (hplain : (backTo cpos (starEach es X.env)).any (·.1) = false) :
    PE X (.Call (.Attribute o name apos) (e :: es) [] cpos) (tBM K T r to t) := hK ▸ pe_bm pa slot hty hm ho ha hbase hfew hline hs hplain
theorem ds_app (i : Nat) {x : Str} {t : De} {p2 apos cpos : Pos} (h : DE He K Y e t) (hv : autoParam (∀ j, PE (Y j) (.Name x p2) (tVar i)) u9._auto_1) (hK : autoParam (∀ i, (Y i).K = K) u4._auto_1)
    (hbase : autoParam (∀ j, attributeBase (.Name x p2) "append" (Y j).env (eval (.Name x p2) (Y j).env) = eval (.Name x p2) (Y j).env) u4._auto_1)
    (hfew : autoParam (∀ j, ((backTo cpos (starEach [e] (Y j).env)).all (fun x => !x.1) && (backToKw cpos (keywordEach [] (Y j).env)).all (fun x => x.1.isSome)
      && decide (([e] : List Expr).length + ([] : List Keyword).length + (if ([] : List Keyword).isEmpty then 0 else 1) < 30)) = true) u4._auto_1)
    (hline : autoParam ((apos.endLine == cpos.line) = true) u5._auto_1) (hs : autoParam (∀ j, starEach [e] (Y j).env = (false, eval e (Y j).env) :: starEach [] (Y j).env) u4._auto_1) (hplain : autoParam (∀ j, (backTo cpos (starEach [] (Y j).env)).any (·.1) = false) u4._auto_1)
    (hsw : autoParam (∀ j, swapsWith (.Call (.Attribute (.Name x p2) "append" apos) [e] [] cpos) none pos.line (Y j).env = pure false) u4._auto_1) :
    DS He K Y (.Expr (.Call (.Attribute (.Name x p2) "append" apos) [e] [] cpos) pos) (sApp i t) := by
  obtain ⟨te, a1, a2⟩ := h
  refine ⟨_, fun j => ps_expr (pe_bmK K (hK j) PySem.F.plainAttrs_list PySem.F.slot_list_append PySem.F.type_list_append mt_append (hv j) (pa_cons (a1 j) pa_nil (hs j)) (hbase j) (hfew j) hline (hs j) (hplain j)) (hsw j), fun D E F s c p => ?_⟩
  obtain ⟨xs, ex, p⟩ := p
  obtain ⟨a, ys, h1, h2, h3, h4, h5⟩ := F.lstAt ex
  refine ⟨_, h1, .inl ⟨rfl, _, SqL.of h2⟩, a2 _ _ F p fun d v R' H' ⟨hz, q⟩ ee r => ?_⟩
  have r5 := RpAll.same ee.rr h5
  refine ⟨a, ys, v, rfl, rfl, ee.hh _ _ h2, szlt' (by rw [h5.len]; omega), ?_⟩
  exact c.nx _ _ _ _ q (s.trans ee.rr) ((F.next ee).lstSet ex h1 (ee.nn _ _ h2 h3) h4 (RpAll.append r5 (.one r)))
def startD (n : Nat) (ds : List PyData) : List Dt := ds.map Dt.d ++ List.replicate (n - ds.length) .un
theorem Fra.begin {H : Hp} {N : List Str} {vs : List V} {ds : List PyData} (he : Same He H) (r : RpAll K H vs ds) : Fra He K H H H (L2.start N vs) (startD N.length ds) := by
  have hl := r.len
  refine ⟨he, Ext.of_same (Same.refl H), by simp [L2.start, startD, hl], fun i d h => ?_, fun i j di dj a h _ o _ => ?_⟩
  · by_cases hi : i < ds.length
    · have e1 : (startD N.length ds)[i]? = some (.d ds[i]) := by
        unfold startD
        rw [List.getElem?_append_left (by rw [List.length_map]; exact hi), List.getElem?_map]
        simp [hi]
      rw [e1] at h; cases h
      obtain ⟨v, hv, rv⟩ := r.get' (i := i) (d := ds[i]) (by simp [hi])
      have e2 : (L2.start N vs)[i]? = some (some v) := by
        unfold L2.start
        rw [List.getElem?_append_left (by rw [List.length_map, hl]; exact hi), List.getElem?_map, hv]; rfl
      rw [e2]
      exact rv
    · have : d = .un := by
        unfold startD at h
        rw [List.getElem?_append_right (by rw [List.length_map]; omega), List.getElem?_replicate] at h
        split at h
        · cases h; rfl
        · cases h
      subst this
      cases ((L2.start N vs)[i]?).join <;> trivial
  · by_cases hi : i < ds.length
    · have e1 : (startD N.length ds)[i]? = some (.d ds[i]) := by
        unfold startD
        rw [List.getElem?_append_left (by rw [List.length_map]; exact hi), List.getElem?_map]
        simp [hi]
      rw [e1] at h; cases h; cases o
    · have : di = .un := by
        unfold startD at h
        rw [List.getElem?_append_right (by rw [List.length_map]; omega), List.getElem?_replicate] at h
        split at h
        · cases h; rfl
        · cases h
      subst this
      cases o
theorem Fun.okG {P : Program} {w : World} {mg : Str → Option Value} {base : Heap} {x qual : Str} {st : Stmt} {f : Addr} {fd : FuncData} {N ps : List Str} {k : Nat} {Pm : List PyData → (Dt → Prop) → Prop} {T : Ds} (F : Fun K x qual st f fd) (S : FnScope N ps (defScope st)) (len : ∀ ds RS, Pm ds RS → ds.length = ps.length)
    (hT : ∀ (cdv : Value) (A : Around) (outer : List Env) (s : Shared) (H : Hp) (E : XK), Room k (A.deeper (envOfC qual (defScope st) s.heap.objs.size f cdv)) → DSs (fun _ => none) K (fun _ : Unit => (cxOf CX0 P w K mg base N qual (defScope st) f cdv A outer s H E).nox) (defBody st) T)
    (hR : ∀ ds RS, Pm ds RS → T { nx := fun _ => RS (.d .none), rt := RS } (startD N.length ds)) : FnOk P w K mg base CX0 (k + 1) f fd ps (spG K Pm) := by
  refine F.ok S (fun vs H Q E h => ?_) (fun cdv A outer s H vs Q E hr h => ?_)
  · obtain ⟨ds, RS, h1, h2, _⟩ := h
    rw [h1.len]
    exact len ds RS h2
  · obtain ⟨ds, RS, h1, h2, k⟩ := h
    obtain ⟨ts, t1, t2⟩ := hT cdv A outer s H E hr
    refine ⟨ts, t1 (), t2 (R0 := H) { nx := fun _ => RS (.d .none), rt := RS } _ (Fra.begin (fun _ _ z => by cases z) h1) (Same.refl H) ⟨fun env' R' H' σ' q _ F' => k (.d .none) .non R' H' q F'.ext Rp.non, fun dt v R' H' q e sl => k dt v R' H' q e sl, fun _ _ _ _ q => q.elim, fun _ _ _ _ q => q.elim⟩ (hR ds RS h2)⟩
end
end L2
set_option Elab.async false
set_option linter.all false
set_option maxRecDepth 100000
namespace L2
open PySem PySem.Spec PyProof.Rows
section
variable {prog : Program} {w : World} {A : Around} {E : Value → Shared → Prop} {s : Shared}
variable {z TI TO i1 i2 : Addr} {f1 f2 : List Addr} {n1 n2 k1 k2 : Nat} {P1 P2 : Nat → Value → Prop} {S1 S2 : Nat → Heap → Prop} {a b : Value}
end
end L2
set_option Elab.async false
set_option linter.all false
set_option maxRecDepth 100000
namespace L2
open PySem PySem.Spec PyProof.Rows
section
variable {X : Cx} {pins : List (Addr × Obj)} {σ : St} {H : Hp} {s : Shared}
end
section
variable {a b c d e : Addr}
end
section
variable {prog : Program} {w : World} {A : Around} {E : Value → Shared → Prop} {s : Shared}
end
section
variable {X : Cx} {elts : List Expr} {kk : Nat} {tpos : Pos}
end
section
variable {He : Hp} {K : PySem.W.Frag} {ι : Type} {Y : ι → Cx} {a b : Expr} {pos : Pos} {elts : List Expr} {kk : Nat} {tpos : Pos}
end
end L2
set_option Elab.async false
set_option linter.all false
set_option maxRecDepth 100000
namespace L2
open PySem PySem.Spec PyProof.Rows
theorem rng_all (bs : List Bool) : ((List.range bs.length).all fun i => (bs[i]?).getD true) = bs.all id := by
  rw [Bool.eq_iff_iff, List.all_eq_true, List.all_eq_true]
  constructor
  · intro h b hb
    obtain ⟨i, hi, e⟩ := List.getElem_of_mem hb
    have := h i (List.mem_range.mpr hi)
    simp only [List.getElem?_eq_getElem hi, Option.getD_some, e] at this
    exact this
  · intro h i hi
    have hi' := List.mem_range.mp hi
    simp only [List.getElem?_eq_getElem hi', Option.getD_some]
    exact h _ (List.getElem_mem hi')
section
variable {X : Cx}
theorem bool_at {bs : List Bool} {its : List Value} {i : Nat} {v : Value} (r : Vals (bs.map V.bl) its) (h : its[i]? = some v) : ∃ b, bs[i]? = some b ∧ v = .bool b := by
  have hl := r.length
  rw [List.length_map] at hl
  have hi : i < its.length := (List.getElem?_eq_some_iff.mp h).1
  obtain ⟨u, hu, ru⟩ := r.get (i := i) (x := V.bl (bs[i]'(by omega))) (by simp [show i < bs.length by omega])
  rw [h] at hu
  cases hu
  exact ⟨_, by simp [show i < bs.length by omega], ru⟩
theorem call_all (K : PySem.W.Frag) (hc : X.calm = true) (hK : X.K = K) : CallR X (.builtin "all") (fun xs H Q => ∃ (p : Addr) (bs : List Bool), xs = [.ref p] ∧ SqL K H p (bs.map V.bl) ∧ Q (.bl (bs.all id)) H) := by
  subst hK
  intro pins s σ H xs us Q I r h
  obtain ⟨p, bs, rfl, hq, q⟩ := h
  obtain ⟨u, rfl, rx⟩ := vals1 r
  cases rx
  obtain ⟨its, rv, pl, hz⟩ := I.list hq
  have hl := pl.isList
  have hlt : p < s.heap.objs.size := by obtain ⟨_, e, _⟩ := hl; exact Heap.lt_size e
  have hh : X.A.in1.handled = none := I.ok.hd hc
  refine call_all_walk (wpAny_pyIter_list hl ?_)
  refine ⟨s.heap.objs.size, [s.heap.objs.size, p], [s.heap.objs.size], its.toArray.size, _, _, fun i => (bs[i]?).getD true, rfl, Walks.list (A := X.A.in1) hh _ p (Nat.ne_of_lt hlt) its.toArray,
    ⟨⟨_, Heap.get?_push_size _ rfl, rfl, rfl⟩, hl.push _⟩, fun i v s' Q' E' hP hQ => ?_, fun h' tk hk => ?_⟩
  · obtain ⟨b, e, rfl⟩ := bool_at rv (i := i) (v := v) (by simpa using hP)
    simp only [e, Option.getD_some] at hQ
    exact wpAny_truthy_bool hQ
  · have e : ((List.range its.toArray.size).all fun i => (bs[i]?).getD true) = bs.all id := by
      rw [List.size_toArray, ← rv.length, List.length_map]; exact rng_all bs
    rw [e]
    have kp : ∀ b o, s.heap.get? b = some o → h'.get? b = some o := fun b x e => hk b x (fun hm => by rw [List.mem_singleton.mp hm] at e; exact Nat.lt_irrefl _ (Heap.lt_size e)) (Heap.get?_push_of_some _ e)
    exact ⟨.bl _, H, I.kept kp, rfl, q⟩
end
section
variable {He : Hp} {K : PySem.W.Frag} {ι : Type} {Y : ι → Cx} {e a b : Expr} {pos : Pos}
theorem bt_all : bootBuiltins "all" = some (.builtin "all") := by decide +kernel
def xAll (t : Dq) : De := fun env P => t env fun l => ∃ bs : List Bool, l = bs.map PyData.bool ∧ P (.bool (bs.all id))
theorem de_all {t : Dq} {p : Pos} (h : DL He K Y a t) (hm : ∀ i, (Y i).mg "all" = none) (hc : autoParam (∀ i, (Y i).calm = true) u4._auto_1) (hg : autoParam (∀ i, Gl (Y i) "all") u4._auto_1) (hK : autoParam (∀ i, (Y i).K = K) u4._auto_1) (hs : autoParam (∀ i, starEach [a] (Y i).env = [(false, eval a (Y i).env)]) u4._auto_1) :
    DE He K Y (.Call (.Name "all" p) [a] [] pos) (xAll t) := by
  obtain ⟨te, h1, h2⟩ := h
  refine ⟨_, fun i => pe_callB (call_all K (hc i) (hK i)) (hg i) (hm i) bt_all (pa_cons (h1 i) pa_nil (hs i)) (by decide) (by decide) (hs i), fun P Q F p k => h2 _ _ F p fun l x ys R1 H1 ⟨bs, hb, q1⟩ e1 s1 r1 => ?_⟩
  subst hb
  rw [RpAll.bools_inv r1] at s1
  exact ⟨x, bs, rfl, SqL.of s1, k _ _ R1 H1 q1 e1 (.bl _)⟩
end
end L2
set_option Elab.async false
set_option linter.all false
set_option maxRecDepth 100000
namespace L2
open PySem PySem.Spec PyProof.Rows
section
variable {X : Cx}
end
section
variable {He : Hp} {K : PySem.W.Frag} {ι : Type} {Y : ι → Cx} {e a b c : Expr} {es : List Expr} {pos : Pos} {lo hi : Option Expr}
abbrev Dp := List Dt → (Option Int → Prop) → Prop
def DP (He : Hp) (K : PySem.W.Frag) {ι : Type} (Y : ι → Cx) (e : Option Expr) (t : Dp) : Prop := ∃ te : TO, (∀ i, PO (Y i) e te) ∧ ∀ {H0 R H : Hp} {σ : St} {env : List Dt} (P : Option Int → Prop) (Q : Option Int → Hp → Prop), Fra He K H0 R H σ env → t env P →
  (∀ o R' H', P o → Ext R H R' H' → Q o H') → te σ H Q
def xPn : Dp := fun _ P => P none
def xPs (t : De) : Dp := fun env P => t env fun d => ∃ i, d = .int i ∧ P (some i)
theorem dp_none : DP He K Y none xPn := ⟨_, fun _ => po_none, fun P Q F p k => k none _ _ p (.refl F.wd)⟩
theorem dp_some {t : De} (h : DB He K Y e t) : DP He K Y (some e) (xPs t) := by
  obtain ⟨te, h1, h2⟩ := h
  refine ⟨_, fun i => po_some (h1 i), fun P Q F p k => h2 _ _ F p fun d v R' H' ⟨i, hi, q⟩ ex r => ?_⟩
  subst hi
  exact ⟨i, r.int_inv, k _ R' H' q ex⟩
def cutD (xs : List PyData) (lo hi : Option Int) : List PyData := (xs.drop (HT.sIx xs.length 0 lo)).take (HT.sIx xs.length xs.length hi - HT.sIx xs.length 0 lo)
theorem RpAll.cut {R : Hp} {ys : List V} {l : List PyData} (r : RpAll K R ys l) (lo hi : Option Int) : RpAll K R (cutV ys lo hi) (cutD l lo hi) := by
  unfold cutV cutD
  rw [r.len]
  exact RpAll.take _ (RpAll.drop _ r)
theorem sl_listK {X : Cx} (K : PySem.W.Frag) (h : autoParam (X.K = K) u5._auto_1) : SlR X (rSlL K) := h ▸ sl_list
def xSlice (t : Dq) (tl th : Dp) : Dq := fun env P => t env fun xs => tl env fun l => th env fun h => P (cutD xs l h)
theorem do_slice {t : Dq} {tl th : Dp} {p2 : Pos} (h : DL He K Y e t) (hl : DP He K Y lo tl) (hh : DP He K Y hi th) (hK : autoParam (∀ i, (Y i).K = K) u4._auto_1) : DO He K Y (.Subscript e (.Slice lo hi none p2) pos) (xSlice t tl th) := by
  obtain ⟨te, h1, h2⟩ := h
  obtain ⟨tl', l1, l2⟩ := hl
  obtain ⟨th', u1, u2⟩ := hh
  refine ⟨_, fun i => pe_slice (sl_listK K (hK i)) (h1 i) (l1 i) (u1 i), fun P Q F p k => ?_⟩
  refine h2 _ _ F p fun l a ys R1 H1 q1 e1 s1 r1 => ?_
  refine l2 _ _ (F.next e1) q1 fun ol R2 H2 q2 e2 => ?_
  refine u2 _ _ (F.next (e1.trans e2)) q2 fun oh R3 H3 q3 e3 => ?_
  have ee := e1.trans (e2.trans e3)
  refine ⟨a, ys, rfl, SqL.of ((e2.trans e3).hh _ _ s1), fun p hp => ?_⟩
  have e4 := Ext.newO (o := .lst (cutV ys ol oh)) ee.wd hp trivial
  exact k _ _ _ _ _ q3 (ee.trans e4) (ee.hh.free hp) upd_same (ee.wd.rh.free hp) (RpAll.cut (RpAll.same (e2.trans e3).rr r1) ol oh)
theorem pe_bm0K {X : Cx} {o : Expr} {to : TE} {name : Str} {apos cpos : Pos} {T id : String} {r : V → List V → Hp → VK → Prop} (K : PySem.W.Frag) (hK : X.K = K) (pa : PlainAttrs T) (slot : Slot T name id) (hty : typeOf (.builtin id) = pure (.type "method_descriptor")) (hm : MtR X id r) (ho : PE X o to)
    (hbase : attributeBase o name X.env (eval o X.env) = eval o X.env) (hline : (apos.endLine == cpos.line) = true) : PE X (.Call (.Attribute o name apos) [] [] cpos) (tBM0 K T r to) := hK ▸ pe_bm0 pa slot hty hm ho hbase hline
def sWhile (t : Db) (tb : Ds) : Ds := fun D env => ∃ (I : Nat → List Dt → Prop), (∃ m, I m env) ∧ ∀ m env1, I m env1 → t env1 fun b => if b = true then tb { nx := fun e => ∃ m', m' < m ∧ I m' e, rt := D.rt, bk := D.nx, ct := fun e => ∃ m', m' < m ∧ I m' e } env1 else D.nx env1
theorem ds_while {t : Db} {tb : Ds} {body : List Stmt} (hp : ∀ i, PassesOwn (model (Y i).prog (Y i).w) (Y i).A (Y i).env (Y i).xe) (hc : DT He K Y c t) (hb : DSs He K Y body tb) : DS He K Y (.While c body [] pos) (sWhile t tb) := by
  obtain ⟨ct, c1, c2⟩ := hc
  obtain ⟨bt, b1, b2⟩ := hb
  refine ⟨_, fun j => ps_while (hp j) (c1 j) (b1 j), fun {H0 R0 R H σ env} D E F s c p => ?_⟩
  obtain ⟨I, ⟨m0, p0⟩, hI⟩ := p
  refine ⟨fun m σ2 H2 => ∃ R2 env2, Fra He K H0 R2 H2 σ2 env2 ∧ Same R0 R2 ∧ I m env2, ⟨m0, R, env, F, s, p0⟩, ?_⟩
  rintro m σ2 H2 ⟨R2, env2, F2, s2, p2⟩
  refine c2 _ _ F2 (hI m env2 p2) fun b R3 H3 q e3 => ?_
  cases b with
  | true =>
    rw [if_pos rfl] at q
    refine ⟨fun σ' H' => ∃ m', m' < m ∧ ∃ R2 env2, Fra He K H0 R2 H' σ' env2 ∧ Same R0 R2 ∧ I m' env2, fun σ' H' ⟨m', h1, h2⟩ => ⟨m', h1, h2⟩, ?_⟩
    refine b2 (R0 := R0) { nx := fun e => ∃ m', m' < m ∧ I m' e, rt := D.rt, bk := D.nx, ct := fun e => ∃ m', m' < m ∧ I m' e } _ (F2.next e3) (s2.trans e3.rr) ⟨fun env' R' H' σ' ⟨m', h1, h2⟩ s' F' => ⟨m', h1, R', env', F', s', h2⟩, c.rt, fun env' R' H' σ' q s' F' => c.nx _ _ _ _ q s' F', fun env' R' H' σ' ⟨m', h1, h2⟩ s' F' => ⟨m', h1, R', env', F', s', h2⟩⟩ q
  | false =>
    rw [if_neg Bool.false_ne_true] at q
    exact c.nx _ _ _ _ q (s2.trans e3.rr) (F2.next e3)
end
end L2
set_option Elab.async false
set_option linter.all false
set_option maxRecDepth 100000
namespace L2
open PySem PySem.Spec PyProof.Rows
theorem frz_d (x : PyData) : frzD (.d x) = some x := rfl
theorem frz_o (x : List PyData) : frzD (.o x) = some (.list x) := rfl
theorem seq_l (xs : List PyData) : seqD (.list xs) = some xs := rfl
theorem seq_t (xs : List PyData) : seqD (.tuple xs) = some xs := rfl
theorem seq_scr (ns : List Int) : seqD (scrD ns) = some (ns.map PyData.int) := by
  show (if excK (ns.map fun n => (PyData.int n, PyData.none)) = true then none else some ((ns.map fun n => (PyData.int n, PyData.none)).map (·.1))) = _
  rw [excK_scr, if_neg Bool.false_ne_true, List.map_map]; rfl
def Gf {α : Type} (l : List α) (f : α → PyData) (q : α → Bool) (h : α → PyData) : PyData → Option PyData → Prop := fun y z => ∃ x, x ∈ l ∧ y = f x ∧ ((q x = true ∧ z = some (h x)) ∨ (q x = false ∧ z = none))
theorem Gf.keep {α : Type} {l : List α} {f : α → PyData} {q : α → Bool} {h : α → PyData} {x : α} {z : PyData} (hx : x ∈ l) (hq : q x = true) (hz : z = h x) : Gf l f q h (f x) (some z) := ⟨x, hx, rfl, .inl ⟨hq, by rw [hz]⟩⟩
theorem Gf.skip {α : Type} {l : List α} {f : α → PyData} {q : α → Bool} {h : α → PyData} {x : α} (hx : x ∈ l) (hq : q x = false) : Gf l f q h (f x) none := ⟨x, hx, rfl, .inr ⟨hq, rfl⟩⟩
theorem Gf.out {α : Type} {l0 : List α} {f : α → PyData} {q : α → Bool} {h : α → PyData} (hf : ∀ a b, f a = f b → a = b) : ∀ {l : List α} {o : List PyData}, LcR (Gf l0 f q h) (l.map f) o → o = (l.filter q).map h
  | [], _, .nil => rfl
  | x :: l, _, .skip a b => by
    obtain ⟨x', _, e, hz⟩ := a
    have e := hf _ _ e
    subst e
    rcases hz with ⟨_, z⟩ | ⟨hq, _⟩
    · cases z
    · rw [List.filter_cons_of_neg (by rw [hq]; exact Bool.false_ne_true)]
      exact Gf.out hf b
  | x :: l, _, .keep a b => by
    obtain ⟨x', _, e, hz⟩ := a
    have e := hf _ _ e
    subst e
    rcases hz with ⟨hq, z⟩ | ⟨_, z⟩
    · rw [List.filter_cons_of_pos hq, List.map_cons]
      cases z
      exact congrArg _ (Gf.out hf b)
    · cases z
theorem Gf.all {α : Type} {l0 : List α} {f : α → PyData} {h : α → PyData} (hf : ∀ a b, f a = f b → a = b) {o : List PyData} (r : LcR (Gf l0 f (fun _ => true) h) (l0.map f) o) : o = l0.map h := by
  rw [Gf.out hf r, List.filter_eq_self.mpr fun _ _ => rfl]
theorem int_inj : ∀ a b : Int, PyData.int a = PyData.int b → a = b := fun _ _ h => PyData.int.inj h
theorem nat_inj : ∀ a b : Nat, PyData.int (a : Int) = PyData.int (b : Int) → a = b := fun _ _ h => Int.ofNat.inj (PyData.int.inj h)
theorem pair_inj : ∀ a b : Int × Int, PyData.tuple [.int a.1, .int a.2] = PyData.tuple [.int b.1, .int b.2] → a = b := fun a b h => by
  injection h with h
  injection h with h1 h2
  injection h2 with h2 _
  exact Prod.ext (PyData.int.inj h1) (PyData.int.inj h2)
theorem ints0 (n : Nat) : intsD 0 n = (List.range n).map fun (i : Nat) => PyData.int (i : Int) := by
  unfold intsD
  exact List.map_congr_left fun a _ => by rw [Int.zero_add]
theorem all_map {α : Type} (l : List α) (p : α → Bool) : (l.map p).all id = l.all p := by rw [List.all_map]; rfl
end L2
namespace L2
open PySem PySem.Spec PyProof.Rows
theorem iteN {c : Bool} {A B : Prop} (hc : c = false) (h : B) : if c = true then A else B := by
  subst hc
  exact h
theorem seq_d {t u : Ds} {D : DEnds} {env : List Dt} (G : List Dt → Prop) (h1 : ∀ N : List Dt → Prop, (∀ e, G e → N e) → t { D with nx := N } env) (h2 : ∀ e, G e → u D e) : sSeq t u D env := h1 (u D) h2
end L2
set_option Elab.async false
set_option linter.all false
set_option maxRecDepth 100000
namespace L2
open PySem PySem.Spec PyProof.Rows
section
variable {X : Cx}
theorem index_ints {prog : Program} {w : World} {A : Around} {E : Value → Shared → Prop} {s : Shared} {l : Addr} {vs : List Value} {ns : List Int} {k : Int} {t : Tok} {Q : Value → Shared → Prop} (hl : s.heap.IsList l vs.toArray) (hi : IntsAre vs ns)
    (hb : ns.length < 2 ^ 62) (hk : k ∈ ns) (h : Q (.int (ns.idxOf k : Nat) s.toks) { s with toks := s.toks + 1 }) :
    wpAny (model prog w) A (call (.builtin "list.index") [.ref l, .int k t]) Q E s := by
  obtain ⟨⟨cls, dd, data, sl⟩, ho, hc, n, hd⟩ := id hl
  simp only at hc hd
  subst hc hd
  have hlen := hi.length
  have hj : ns.idxOf k < ns.length := List.idxOf_lt_length_iff.mpr hk
  refine call_meets PySem.F.slot_list_index ⟨_, ho, rfl⟩ PySem.F.entry_list_index (PySem.F.args_list_index_2 _ _)
    (PySem.SeqAt.list_indexAt l vs.toArray n dd sl (.int k t) (isInt k) (ns.idxOf k) (by simpa [hlen] using hj) (by omega) ?_ ?_) ⟨ho, fun y hy => (eq_isInt k t hi y (by simpa using hy)).at _ _, h⟩
  · show isInt k vs[ns.idxOf k] = true
    rw [isInt_at k hi _ (by omega) hj]
    simpa using List.getElem_idxOf hj
  · intro j hjs hlt
    show isInt k vs[j] = false
    rw [isInt_at k hi j (by simpa using hjs) (by omega)]
    exact ne_of_lt_idxOf hlt _
theorem mt_index (K : PySem.W.Frag) (hK : X.K = K) : MtR X "list.index" (fun x xs H Q => ∃ (p : Addr) (ns : List Int) (k : Int), x = .ref p ∧ xs = [.int k] ∧ SqL K H p (ns.map V.int) ∧ k ∈ ns ∧ Q (.int (ns.idxOf k : Nat)) H) := by
  subst hK
  intro pins s σ H x xs v us Q I rx rs h
  obtain ⟨p, ns, k, rfl, rfl, hq, hk, q⟩ := h
  cases rx
  obtain ⟨u, rfl, t, rfl⟩ := Vals.one rs
  obtain ⟨its, rv, pl, hz⟩ := I.list hq
  have hz : ns.length ≤ sizeLine := by rw [List.length_map] at hz; exact hz
  have hs : sizeLine < 2 ^ 62 := by decide
  exact index_ints pl.isList (intsAre_of rv) (by omega) hk ⟨.int _, H, I.tok _, ⟨_, rfl⟩, q⟩
end
section
variable {He : Hp} {K : PySem.W.Frag} {ι : Type} {Y : ι → Cx} {e a b : Expr} {pos : Pos}
def xIndex (t : Dq) (u : De) : De := fun env P => t env fun l => u env fun d => ∃ (ns : List Int) (k : Int), l = ns.map PyData.int ∧ d = .int k ∧ k ∈ ns ∧ P (.int (ns.idxOf k : Nat))
theorem de_index {t : Dq} {u : De} {apos cpos : Pos} (ho : DL He K Y a t) (h : DB He K Y e u) (hK : autoParam (∀ i, (Y i).K = K) u4._auto_1)
    (hbase : autoParam (∀ j, attributeBase a "index" (Y j).env (eval a (Y j).env) = eval a (Y j).env) u4._auto_1)
    (hfew : autoParam (∀ j, ((backTo cpos (starEach [e] (Y j).env)).all (fun x => !x.1) && (backToKw cpos (keywordEach [] (Y j).env)).all (fun x => x.1.isSome)
      && decide (([e] : List Expr).length + ([] : List Keyword).length + (if ([] : List Keyword).isEmpty then 0 else 1) < 30)) = true) u4._auto_1)
    (hline : autoParam ((apos.endLine == cpos.line) = true) u5._auto_1) (hs : autoParam (∀ j, starEach [e] (Y j).env = (false, eval e (Y j).env) :: starEach [] (Y j).env) u4._auto_1) (hplain : autoParam (∀ j, (backTo cpos (starEach [] (Y j).env)).any (·.1) = false) u4._auto_1) :
    DE He K Y (.Call (.Attribute a "index" apos) [e] [] cpos) (xIndex t u) := by
  obtain ⟨te, a1, a2⟩ := ho
  obtain ⟨te', b1, b2⟩ := h
  refine ⟨_, fun j => pe_bmK K (hK j) PySem.F.plainAttrs_list PySem.F.slot_list_index PySem.F.type_list_index (mt_index K (hK j)) (a1 j) (pa_cons (b1 j) pa_nil (hs j)) (hbase j) (hfew j) hline (hs j) (hplain j), fun P Q F p k => ?_⟩
  refine a2 _ _ F p fun l x ys R1 H1 q1 e1 s1 r1 => ?_
  refine ⟨.inl ⟨rfl, _, SqL.of s1⟩, b2 _ _ (F.next e1) q1 fun d v R2 H2 ⟨ns, m, hl, hd, hm, q2⟩ e2 r2 => ?_⟩
  subst hl hd
  have ev := r2.int_inv
  subst ev
  have ey := RpAll.ints_inv r1
  subst ey
  exact ⟨x, ns, m, rfl, rfl, SqL.of (e2.hh _ _ s1), hm, k _ _ R2 H2 q2 (e1.trans e2) (.int _)⟩
end
end L2
namespace L2
open PySem PySem.Spec PyProof.Rows
section
variable {He : Hp} {K : PySem.W.Frag} {ι : Type} {Y : ι → Cx} {e : Expr}
end
end L2
set_option Elab.async false
set_option linter.all false
set_option maxRecDepth 100000
namespace L2
open PySem PySem.Spec PyProof.Rows
section
variable {prog : Program} {w : World} {A : Around} {E : Value → Shared → Prop} {s : Shared}
end
section
variable {X : Cx}
end
section
variable {He : Hp} {K : PySem.W.Frag} {ι : Type} {Y : ι → Cx} {a : Expr} {pos : Pos}
end
section
variable {X : Cx}
end
section
variable {He : Hp} {K : PySem.W.Frag} {ι : Type} {Y : ι → Cx}
end
end L2
set_option Elab.async false
set_option linter.all false
set_option maxRecDepth 100000
namespace L2
open PySem PySem.Spec PyProof.Rows
section
variable {M : Model} {A : Around} {E : Value → Shared → Prop} {s : Shared} {base h0 : Heap} {H : Hp} {env : Env} {outer : List Env} {L e : Addr} {C : Value} {Q : Unit → Shared → Prop}
end
theorem ObjOk.sits {P : Program} {w : World} {H : Hp} {h : Heap} {a : Addr} {o : HO} (x : ObjOk P w H h a o) : ∃ u, h.get? a = some u := by
  cases o with
  | lst xs => obtain ⟨_, _, _, _, e⟩ := x; exact ⟨_, e⟩
  | tup xs => obtain ⟨_, _, _, o, e, _⟩ := x; exact ⟨_, e⟩
  | dK kvs => obtain ⟨_, _, _, _, o, _, _, e, _⟩ := x; exact ⟨_, e⟩
  | dT kvs => obtain ⟨_, _, _, _, o, _, _, e, _⟩ := x; exact ⟨_, e⟩
  | set S n => obtain ⟨o, _, _, _, e, _⟩ := x; exact ⟨_, e⟩
  | ins C dx fs => obtain ⟨_, _, _, e, _⟩ := x; exact ⟨_, e⟩
  | own y => obtain ⟨_, e⟩ := x; exact ⟨_, e⟩
  | xd fs => obtain ⟨_, ⟨_, _, _, e, _⟩, _⟩ := x; exact ⟨_, e⟩
  | rng lo hi => obtain ⟨_, _, _, e⟩ := x; exact ⟨_, e⟩
  | frz ob u => obtain ⟨e, _⟩ := x; exact ⟨_, e⟩
  | tbl ps => exact ⟨_, (show h.get? a = some _ from x)⟩
  | met f y => exact ⟨_, (show h.get? a = some _ from x)⟩
  | ext φ => obtain ⟨_, ⟨_, e⟩, _⟩ := x; exact ⟨_, e⟩
theorem HOk.gone {P : Program} {w : World} {H : Hp} {h : Heap} (x : HOk P w H h) {a : Addr} (e : h.get? a = none) : H a = none := by
  cases q : H a with
  | none => rfl
  | some o =>
    obtain ⟨u, z⟩ := (x a o q).sits
    rw [e] at z; cases z
section
variable {P : Program} {w : World} {K : PySem.W.Frag} {mg : Str → Option Value} {base : Heap} {N : List Str} {qual : Str} {scope : Scope} {f : Addr} {cd : Value} {A : Around} {outer : List Env} {s : Shared} {H : Hp} {E : XK}
end
section
variable {P : Program} {w : World} {K : PySem.W.Frag} {mg : Str → Option Value} {base : Heap} {N : List Str} {qual : Str} {scope : Scope} {f : Addr} {cd : Value} {A : Around} {outer : List Env} {s : Shared} {H : Hp} {E : XK} {x : Str} {C : Addr} {np cpos pos : Pos} {msg : Str} {jj : Nat} {mp : Pos}
end
end L2
set_option Elab.async false
set_option linter.all false
set_option maxRecDepth 100000
namespace L2
open PySem PySem.Spec PyProof.Rows
section
variable {X : Cx} {k : Nat} {f : Addr} {fd : FuncData} {ps : List Str} {x : Str} {p pos : Pos} {e : Expr} {es : List Expr} {t : TA} {K : PySem.W.Frag} {P : List PyData → (Dt → Prop) → (Addr → Prop) → Prop}
theorem merge {pins : List (Addr × Obj)} {σ : St} {R H H1 : Hp} {s s' : Shared} (I : Inv X pins σ H s) (w : Wd R H) (un : Un (frs X.stack) [] R H1 s.heap s'.heap) (hok : HOk X.prog X.w H1 s'.heap) :
    ∃ H2 : Hp, (∀ b o, H b = some o → R b = none → H1 b = none) ∧ (∀ b, R b = none → H b ≠ none → H2 b = H b) ∧ (∀ b o, H1 b = some o → H2 b = some o) ∧ (∀ b, H b = none → H1 b = none → H2 b = none) ∧ (∀ b o, H2 b = some o → (R b = none ∧ H b = some o) ∨ H1 b = some o) ∧
      Un (frs X.stack) [] H H2 s.heap s'.heap ∧ HOk X.prog X.w H2 s'.heap := by
  have gone : ∀ b o, H b = some o → R b = none → H1 b = none := fun b o z n => by
    obtain ⟨ob, eb⟩ := (I.hok b o z).obj (w.ls b o z n)
    exact un.free b ob eb n (by simp)
  classical
  have eA : ∀ b, R b = none → H b ≠ none → (fun b => if R b = none ∧ H b ≠ none then H b else H1 b) b = H b := fun b n z => if_pos ⟨n, z⟩
  have eB : ∀ b o, H1 b = some o → (fun b => if R b = none ∧ H b ≠ none then H b else H1 b) b = some o := fun b o z => by
    show (if R b = none ∧ H b ≠ none then H b else H1 b) = some o
    rw [if_neg]
    · exact z
    · rintro ⟨n, hne⟩
      cases q : H b with
      | none => exact hne q
      | some u => rw [gone b u q n] at z; cases z
  have eN : ∀ b, H b = none → H1 b = none → (fun b => if R b = none ∧ H b ≠ none then H b else H1 b) b = none := fun b n z => by
    show (if R b = none ∧ H b ≠ none then H b else H1 b) = none
    rw [if_neg (by rintro ⟨_, z⟩; exact z n)]
    exact z
  have eX : ∀ b o, (fun b => if R b = none ∧ H b ≠ none then H b else H1 b) b = some o → (R b = none ∧ H b = some o) ∨ H1 b = some o := fun b o z => by
    have z : (if R b = none ∧ H b ≠ none then H b else H1 b) = some o := z
    split at z
    · rename_i hc
      exact .inl ⟨hc.1, z⟩
    · exact .inr z
  generalize (fun b => if R b = none ∧ H b ≠ none then H b else H1 b) = H2 at eA eB eN eX
  have nr : ∀ b, H b = none → R b = none := fun b n => w.rh.free n
  have tup2 : ∀ b xs, H b = some (.tup xs) → H2 b = some (.tup xs) := fun b xs z => eB b _ (un.tups b xs (w.back z fun z => z))
  refine ⟨H2, gone, eA, eB, eN, eX, ⟨?_, ?_, ?_, un.there, tup2, ?_, ?_⟩, ?_⟩
  · exact fun b o z n hf hx => un.keep b o z (nr b n) hf hx
  · exact fun b o z n hf hx => un.slot b o z (nr b n) hf hx
  · exact fun b o z n hx => eN b n (un.free b o z (nr b n) hx)
  · exact fun b o u z => eB b _ (un.frzs b o u (w.back z fun z => z))
  · intro b ps z
    obtain ⟨m, hm⟩ := un.tbls b ps (w.back z fun z => z)
    exact ⟨m, eB b _ hm⟩
  · intro b o z
    rcases eX b o z with ⟨n2, z2⟩ | z2
    · refine (I.hok b o z2).stayL (w.ls b o z2 n2) (fun u q => un.keep b u q n2 (fun hf => ?_) (by simp)) tup2
      rw [I.stkFree b hf] at z2; cases z2
    · refine (hok b o z2).stay (fun c u _ q => q) (fun c q => eB c _ q) fun c xs q => eB c _ q
end
section
variable {X : Cx} {k : Nat} {f : Addr} {fd : FuncData} {ps : List Str} {x : Str} {p pos : Pos} {e : Expr} {es : List Expr} {t : TA} {K : PySem.W.Frag} {P : List PyData → (Dt → Prop) → (Addr → Prop) → Prop} {E : XK}
end
section
variable {He : Hp} {K : PySem.W.Frag} {ι : Type} {Y : ι → Cx} {e : Expr} {es : List Expr} {pos p : Pos} {prog : Program} {w : World} {mg : Str → Option Value} {base : Heap} {x : Str} {k : Nat} {ps : List Str} {P : List PyData → (Dt → Prop) → (Addr → Prop) → Prop} {t : Dq} {E : XK} {W : Addr → Prop}
end
section
variable {P : Program} {w : World} {K : PySem.W.Frag} {mg : Str → Option Value} {base : Heap} {N : List Str} {qual : Str} {scope : Scope} {f : Addr} {cd : Value} {A : Around} {outer : List Env} {s : Shared} {H : Hp} {E : XK} {x : Str} {C : Addr} {np cpos pos : Pos} {msg : Str} {jj : Nat} {mp : Pos} {W : Addr → Prop}
end
end L2
set_option Elab.async false
set_option linter.all false
set_option maxRecDepth 100000
namespace L2
open PySem PySem.Spec PyProof.Rows
section
variable {M : Model} {A : Around} {E : Value → Shared → Prop} {C D : Addr}
variable {nm q : Str} {N : Addr} {bs bm : List Value} {hdct : Bool} {sn : List Str} {sub : List Value} {ab : Bool} {col : Option Bool} {dd : Option Addr} {k0 k1 k2 k3 k5 : Option Value} {newId : String}
variable {nm' q' : Str} {N' : Addr} {bs' bm' : List Value} {hdct' : Bool} {sn' : List Str} {sub' : List Value} {ab' : Bool} {col' : Option Bool} {dd' : Option Addr} {k0' k1' k2' k3' k5' : Option Value} {newId' : String}
end
section
variable {prog : Program} {w : World} {A : Around} {E : Value → Shared → Prop} {s : Shared} {base h0 : Heap} {H : Hp} {env : Env} {outer : List Env} {L e C D : Addr} {Q : Flow → Shared → Prop} {x n : Str} {b₀ : Stmt} {suite : List Stmt} {pos np : Pos} {rest : List ExceptHandler}
end
end L2
set_option Elab.async false
set_option linter.all false
set_option maxRecDepth 100000
namespace L2
open PySem PySem.Spec PyProof.Rows
section
variable {X : Cx} {pins : List (Addr × Obj)} {σ : St} {H : Hp} {s : Shared}
end
end L2
set_option Elab.async false
set_option linter.all false
set_option maxRecDepth 100000
namespace L2
open PySem PySem.Spec PySem.W PySem.Calls PyProof.Rows Builtin Builtin.ObjectAttr Builtin.Getset_descriptor
section
variable {prog : Program} {w : World} {A : Around} {E : Value → Shared → Prop} {h : Heap} {g : Array GenState} {d : Drawn} {t : Nat} {os : OsState} {a D : Addr} {o : Obj} {K : PySem.W.Frag}
end
end L2
set_option Elab.async false
set_option linter.all false
set_option maxRecDepth 100000
namespace L2
open PySem PySem.Spec PyProof.Rows
section
variable {X : Cx} {pins : List (Addr × Obj)} {σ : St} {H : Hp} {s : Shared}
end
section
variable {P : Program} {w : World} {K : PySem.W.Frag} {mg : Str → Option Value} {base : Heap}
end
end L2
set_option Elab.async false
set_option linter.all false
set_option maxRecDepth 100000
namespace L2
open PySem PySem.Spec PyProof.Rows
section
variable {He : Hp} {K : PySem.W.Frag} {ι : Type} {Y : ι → Cx} {a : Expr} {pos : Pos}
end
def clsA (K : PySem.W.Frag) (nm : Str) (c : Addr) : Prop := PySem.W.nsIn K mainGlobals nm = some (some (.ref c))
def tailVE : List Value := [.type "ValueError", .type "Exception", .type "BaseException", .type "object"]
def xOk (K : PySem.W.Frag) (C : Addr) : Bool := PySem.W.excIn K C tailVE "ValueError.__new__" && (PySem.W.clsIn K C).isSome && PySem.W.findIn K (.ref C) "__getattribute__" == some (some (.builtin "BaseException.__getattribute__")) && PySem.W.findIn K (.ref C) "__getattr__" == some none &&
  PySem.W.findIn K (.ref C) "__class__" == some (some (.builtin "object.__class__")) && PySem.W.mroIn K C (.type "object") == some true && PySem.W.mroIn K C (.type "BaseException") == some true
end L2
namespace L2
open PySem PySem.Spec PyProof.Rows
section
variable {P : Program} {w : World} {K : PySem.W.Frag} {mg : Str → Option Value} {base : Heap}
end
structure XC (K : PySem.W.Frag) (mg : Str → Option Value) (nm : Str) (c : Addr) : Prop where
  a : clsA K nm c
  m : mg nm = some (.ref c)
  ok : xOk K c = true
end L2
set_option Elab.async false
set_option linter.all false
set_option maxRecDepth 100000
namespace L2
open PySem PySem.Spec PyProof.Rows
section
variable {He : Hp} {K : PySem.W.Frag} {ι : Type} {Y : ι → Cx} {e tg : Expr} {pos : Pos} {ts : List Nat}
end
end L2
set_option Elab.async false
set_option linter.all false
set_option maxRecDepth 100000
namespace L2
open PySem PySem.Spec PyProof.Rows
section
variable {He : Hp} {K : PySem.W.Frag} {ι : Type} {Y : ι → Cx} {e : Expr} {pos : Pos}
end
end L2
set_option Elab.async false
set_option linter.all false
set_option maxRecDepth 100000
namespace L2
open PySem PySem.Spec PySem.W PyProof.Rows
section
variable {key : Nat → Int} {N : Nat} {cmp : Nat → Nat → (Bool → Shared → Prop) → Shared → Prop} {s : Shared}
def kyA (key : Nat → Int) (p : Array Nat) (i : Nat) : Int := key (p.getD i 0)
structure PmA (N : Nat) (p : Array Nat) : Prop where
  pm : p.Perm (List.range N).toArray
theorem PmA.size {p : Array Nat} (h : PmA N p) : p.size = N := by
  have := h.pm.size_eq
  simpa using this
theorem PmA.lt {p : Array Nat} (h : PmA N p) (h0 : 0 < N) (i : Nat) : p.getD i 0 < N := by
  by_cases hi : i < p.size
  · have e : p.getD i 0 = p[i] := by simp [hi]
    rw [e]
    have : p[i] ∈ (List.range N).toArray := h.pm.mem_iff.mp (Array.getElem_mem hi)
    simpa using this
  · have e : p.getD i 0 = 0 := by simp [hi]
    rw [e]; exact h0
theorem getD_of {p q : Array Nat} {i j : Nat} (h : p[i]? = q[j]?) : p.getD i 0 = q.getD j 0 := by
  simp [Array.getD_eq_getD_getElem?, h]
theorem PmA.rev {p : Array Nat} (h : PmA N p) (i j : Nat) : PmA N (kas_rev p i j) := ⟨(mirror_perm p i j _).trans h.pm⟩
theorem PmA.bub {p : Array Nat} (h : PmA N p) (i j : Nat) : PmA N (bubble p i j) := ⟨(bubble_perm p i j).trans h.pm⟩
theorem ky_rev {p : Array Nat} {i j : Nat} (hj : j ≤ p.size) (k : Nat) : kyA key (kas_rev p i j) k = if i ≤ k ∧ k < j then kyA key p (i + j - 1 - k) else kyA key p k := by
  have e := getElem?_mirror_all (xs := p) (i := i) hj k
  unfold kyA kas_rev
  by_cases h : i ≤ k ∧ k < j
  · rw [if_pos h] at e ⊢; rw [getD_of e]
  · rw [if_neg h] at e ⊢; rw [getD_of e]
theorem ky_bub {p : Array Nat} {src d : Nat} (hs : src < p.size) (hd : d ≤ src) (k : Nat) : kyA key (bubble p src d) k = if k = src - d then kyA key p src else if src - d < k ∧ k ≤ src then kyA key p (k - 1) else kyA key p k := by
  have e := getElem?_bubble hs d hd k
  unfold kyA
  by_cases h1 : k = src - d
  · rw [if_pos h1] at e ⊢; rw [getD_of e]
  · rw [if_neg h1] at e ⊢
    by_cases h2 : src - d < k ∧ k ≤ src
    · rw [if_pos h2] at e ⊢; rw [getD_of e]
    · rw [if_neg h2] at e ⊢; rw [getD_of e]
def UpA (key : Nat → Int) (p : Array Nat) (m : Nat) : Prop := ∀ i j, i ≤ j → j < m → kyA key p i ≤ kyA key p j
def DnA (key : Nat → Int) (p : Array Nat) (m : Nat) : Prop := ∀ i j, i ≤ j → j < m → kyA key p j ≤ kyA key p i
theorem UpA.succ {p : Array Nat} {m : Nat} (h : UpA key p m) (hm : 0 < m) (h1 : kyA key p (m - 1) ≤ kyA key p m) : UpA key p (m + 1) := fun i j hij hj => by
  by_cases e : j = m
  · subst e
    by_cases e2 : i = j
    · subst e2; exact Int.le_refl _
    · exact Int.le_trans (h i (j - 1) (by omega) (by omega)) h1
  · exact h i j hij (by omega)
theorem DnA.succ {p : Array Nat} {m : Nat} (h : DnA key p m) (hm : 0 < m) (h1 : kyA key p m ≤ kyA key p (m - 1)) : DnA key p (m + 1) := fun i j hij hj => by
  by_cases e : j = m
  · subst e
    by_cases e2 : i = j
    · subst e2; exact Int.le_refl _
    · exact Int.le_trans h1 (h i (j - 1) (by omega) (by omega))
  · exact h i j hij (by omega)
theorem DnA.rev {p : Array Nat} {m : Nat} (h : DnA key p m) (hm : m ≤ p.size) : UpA key (kas_rev p 0 m) m := fun i j hij hj => by
  rw [ky_rev hm, ky_rev hm, if_pos ⟨Nat.zero_le _, by omega⟩, if_pos ⟨Nat.zero_le _, hj⟩]
  exact h _ _ (by omega) (by omega)
def EqA (key : Nat → Int) (p : Array Nat) (n q : Nat) : Prop := ∀ i, n - (q + 1) ≤ i → i < n → kyA key p i = kyA key p (n - 1)
theorem ky_revE {p : Array Nat} {n q : Nat} (hn : n ≤ p.size) (h : EqA key p n q) (k : Nat) : kyA key (kas_rev p (n - (q + 1)) n) k = kyA key p k := by
  rw [ky_rev hn]
  split
  · rename_i hk
    rw [h k hk.1 hk.2]
    exact h _ (by omega) (by omega)
  · rfl
theorem DnA.same {p p' : Array Nat} {m : Nat} (h : DnA key p m) (e : ∀ k, kyA key p' k = kyA key p k) : DnA key p' m := fun i j hij hj => by rw [e, e]; exact h i j hij hj
variable (hc : ∀ (i j : Nat) (C : Bool → Shared → Prop), i < N → j < N → C (decide (key i < key j)) s → cmp i j C s) (h0 : 0 < N)
include hc h0
theorem asc_ok {p : Array Nat} (pm : PmA N p) {Q : Nat → Shared → Prop} : ∀ (f n : Nat), 0 < n → UpA key p n → (∀ m, n ≤ m → m ≤ n + f → UpA key p m → (m < n + f → kyA key p m < kyA key p (m - 1)) → Q m s) → (kas_asc p f n).kasWp cmp Q s
  | 0, n, hn, hu, k => k n (Nat.le_refl _) (Nat.le_refl _) hu fun z => by omega
  | f + 1, n, hn, hu, k => by
    unfold kas_asc KasT.kasWp
    refine hc _ _ _ (pm.lt h0 _) (pm.lt h0 _) ?_
    by_cases h : kyA key p n < kyA key p (n - 1)
    · rw [show decide (key (p.getD n 0) < key (p.getD (n - 1) 0)) = true from decide_eq_true h]
      exact k n (Nat.le_refl _) (by omega) hu fun _ => h
    · rw [show decide (key (p.getD n 0) < key (p.getD (n - 1) 0)) = false from decide_eq_false h]
      exact asc_ok pm f (n + 1) (by omega) (hu.succ hn (by omega)) fun m a b c d => k m (by omega) (by omega) c fun z => d (by omega)
theorem desc_ok {Q : Array Nat × Nat × Nat → Shared → Prop} : ∀ (f : Nat) (p : Array Nat) (n q : Nat), PmA N p → 0 < n → q + 1 ≤ n → n + f ≤ N → DnA key p n → EqA key p n q →
    (∀ p' n' q', PmA N p' → 0 < n' → q' + 1 ≤ n' → n' ≤ N → DnA key p' n' → EqA key p' n' q' → Q (p', n', q') s) → (kas_desc f p n q).kasWp cmp Q s
  | 0, p, n, q, pm, hn, hq, hN, hd, he, k => k p n q pm hn hq (by omega) hd he
  | f + 1, p, n, q, pm, hn, hq, hN, hd, he, k => by
    unfold kas_desc KasT.kasWp
    have hsz := pm.size
    refine hc _ _ _ (pm.lt h0 _) (pm.lt h0 _) ?_
    have one : ∀ p', EqA key p' (n + 1) 0 := fun p' i h1 h2 => by
      have : i = n := by omega
      subst this; rfl
    by_cases h : kyA key p n < kyA key p (n - 1)
    · rw [show decide (key (p.getD n 0) < key (p.getD (n - 1) 0)) = true from decide_eq_true h]
      dsimp only
      rw [if_pos rfl]
      by_cases hq0 : q > 0
      · rw [if_pos hq0]
        have ek := ky_revE (key := key) (p := p) (n := n) (q := q) (by omega) he
        exact desc_ok f _ (n + 1) 0 (pm.rev _ _) (by omega) (by omega) (by omega) ((hd.same ek).succ hn (by rw [ek, ek]; omega)) (one _) k
      · rw [if_neg hq0]
        exact desc_ok f p (n + 1) 0 pm (by omega) (by omega) (by omega) (hd.succ hn (by omega)) (one _) k
    · rw [show decide (key (p.getD n 0) < key (p.getD (n - 1) 0)) = false from decide_eq_false h]
      dsimp only
      rw [if_neg Bool.false_ne_true]
      unfold KasT.kasWp
      refine hc _ _ _ (pm.lt h0 _) (pm.lt h0 _) ?_
      by_cases h2 : kyA key p (n - 1) < kyA key p n
      · rw [show decide (key (p.getD (n - 1) 0) < key (p.getD n 0)) = true from decide_eq_true h2]
        exact k p n q pm hn hq (by omega) hd he
      · rw [show decide (key (p.getD (n - 1) 0) < key (p.getD n 0)) = false from decide_eq_false h2]
        have e : kyA key p n = kyA key p (n - 1) := by omega
        refine desc_ok f p (n + 1) (q + 1) pm (by omega) (by omega) (by omega) (hd.succ hn (by omega)) (fun i h3 h4 => ?_) k
        show kyA key p i = kyA key p n
        by_cases hi : i = n
        · rw [hi]
        · rw [he i (by omega) (by omega), e]
theorem tail3_ok {p : Array Nat} {n : Nat} (pm : PmA N p) (hn : 0 < n) (hN : n ≤ N) (hd : DnA key p n) {Q : Nat × Array Nat → Shared → Prop} (k : ∀ m p', PmA N p' → 0 < m → m ≤ N → UpA key p' m → Q (m, p') s) : (kas_tail3 n N p).kasWp cmp Q s := by
  unfold kas_tail3
  rw [KasT.kasWp_bind]
  refine asc_ok hc h0 (pm.rev 0 n) _ n hn (hd.rev (by rw [pm.size]; exact hN)) fun m h1 h2 h3 _ => ?_
  exact k m _ (pm.rev 0 n) (by omega) (by omega) h3
theorem dpart_ok {p : Array Nat} {n : Nat} (pm : PmA N p) (hn : 0 < n) (hN : n < N) (hd : DnA key p (n + 1)) {Q : Nat × Array Nat → Shared → Prop} (k : ∀ m p', PmA N p' → 0 < m → m ≤ N → UpA key p' m → Q (m, p') s) : (kas_descPart n N p).kasWp cmp Q s := by
  unfold kas_descPart
  rw [KasT.kasWp_bind]
  refine desc_ok hc h0 _ p (n + 1) 0 pm (by omega) (by omega) (by omega) hd (fun i h1 h2 => ?_) fun p' n' q' pm' hn' hq' hN' hd' he' => ?_
  · have : i = n := by omega
    subst this; rfl
  · dsimp only
    split
    · exact tail3_ok hc h0 (pm'.rev _ _) hn' hN' (hd'.same (ky_revE (by rw [pm'.size]; exact hN') he')) k
    · exact tail3_ok hc h0 pm' hn' hN' hd' k
theorem count_ok {p : Array Nat} (pm : PmA N p) {Q : Nat × Array Nat → Shared → Prop} (k : ∀ m p', PmA N p' → 0 < m → m ≤ N → UpA key p' m → Q (m, p') s) : (kas_count N p).kasWp cmp Q s := by
  unfold kas_count
  rw [KasT.kasWp_bind]
  refine asc_ok hc h0 pm _ 1 (by omega) (fun i j h1 h2 => ?_) fun n h1 h2 h3 h4 => ?_
  · have e : i = j := by omega
    subst e; exact Int.le_refl _
  skip
  by_cases hn : n = N
  · rw [if_pos (by simp [hn])]
    exact k n p pm (by omega) (by omega) h3
  · rw [if_neg (by simp [hn])]
    have lt := h4 (by omega)
    by_cases hn1 : n > 1
    · rw [if_pos hn1]
      unfold KasT.kasWp
      refine hc _ _ _ (pm.lt h0 _) (pm.lt h0 _) ?_
      by_cases h : kyA key p 0 < kyA key p (n - 1)
      · rw [show decide (key (p.getD 0 0) < key (p.getD (n - 1) 0)) = true from decide_eq_true h]
        exact k n p pm (by omega) (by omega) h3
      · rw [show decide (key (p.getD 0 0) < key (p.getD (n - 1) 0)) = false from decide_eq_false h]
        have all : ∀ i, i < n → kyA key p i = kyA key p 0 := fun i hi => by
          have a := h3 0 i (Nat.zero_le _) hi
          have b := h3 i (n - 1) (by omega) (by omega)
          omega
        have sz : n ≤ p.size := by rw [pm.size]; omega
        have same : ∀ i, kyA key (kas_rev p 0 n) i = kyA key p i := fun i => by
          rw [ky_rev sz]
          split
          · rename_i hi
            rw [all _ (by omega), all i hi.2]
          · rfl
        refine dpart_ok hc h0 (pm.rev 0 n) (by omega) (by omega) (DnA.same (p := p) (fun i j hij hj => ?_) same) k
        by_cases e : j = n
        · subst e
          by_cases e2 : i = j
          · subst e2; exact Int.le_refl _
          · rw [all i (by omega), ← all (j - 1) (by omega)]; omega
        · rw [all i (by omega), all j (by omega)]; exact Int.le_refl _
    · rw [if_neg hn1]
      have e1 : n = 1 := by omega
      subst e1
      refine dpart_ok hc h0 pm (by omega) (by omega) (fun i j hij hj => ?_) k
      have : (i = j) ∨ (i = 0 ∧ j = 1) := by omega
      rcases this with e | ⟨e, e'⟩
      · subst e; exact Int.le_refl _
      · subst e; subst e'; exact Int.le_of_lt lt
theorem place_ok {p : Array Nat} (pm : PmA N p) {k : Nat} (hu : UpA key p k) {Q : Nat → Shared → Prop} (kk : ∀ l, l ≤ k → (∀ i, i < l → kyA key p i ≤ kyA key p k) → (∀ i, l ≤ i → i < k → kyA key p k < kyA key p i) → Q l s) :
    ∀ (f l r : Nat), r - l ≤ f → l ≤ r → r ≤ k → (∀ i, i < l → kyA key p i ≤ kyA key p k) → (∀ i, r ≤ i → i < k → kyA key p k < kyA key p i) → (kas_place p k f l r).kasWp cmp Q s
  | 0, l, r, hf, hlr, hr, h1, h2 => by
    have e : l = r := by omega
    subst e
    exact kk l (by omega) h1 h2
  | f + 1, l, r, hf, hlr, hr, h1, h2 => by
    unfold kas_place
    by_cases e : l ≥ r
    · rw [if_pos e]
      have e : l = r := by omega
      subst e
      exact kk l (by omega) h1 h2
    · rw [if_neg e]
      unfold KasT.kasWp
      refine hc _ _ _ (pm.lt h0 _) (pm.lt h0 _) ?_
      have hm : l ≤ (l + r) / 2 ∧ (l + r) / 2 < r := by omega
      generalize (l + r) / 2 = mid at hm ⊢
      by_cases h : kyA key p k < kyA key p mid
      · rw [show decide (key (p.getD k 0) < key (p.getD mid 0)) = true from decide_eq_true h]
        exact place_ok pm hu kk f l mid (by omega) (by omega) (by omega) h1 fun i a b => Int.lt_of_lt_of_le h (hu mid i a b)
      · rw [show decide (key (p.getD k 0) < key (p.getD mid 0)) = false from decide_eq_false h]
        exact place_ok pm hu kk f (mid + 1) r (by omega) (by omega) hr (fun i a => Int.le_trans (hu i mid (by omega) (by omega)) (by omega)) h2
theorem bin_ok {Q : Array Nat → Shared → Prop} (kk : ∀ p, PmA N p → UpA key p N → Q p s) : ∀ (f : Nat) (p : Array Nat) (k : Nat), PmA N p → 0 < k → k + f = N → UpA key p k → (kas_bin f p k).kasWp cmp Q s
  | 0, p, k, pm, hk, e, hu => kk p pm (by rw [← e]; exact hu)
  | f + 1, p, k, pm, hk, e, hu => by
    unfold kas_bin
    rw [KasT.kasWp_bind]
    refine place_ok hc h0 pm hu (fun l hl h1 h2 => ?_) k 0 k (by omega) (by omega) (Nat.le_refl _) (fun i z => by omega) fun i a b => by omega
    refine bin_ok kk f _ (k + 1) (pm.bub _ _) (by omega) (by omega) fun i j hij hj => ?_
    have hs : k < p.size := by rw [pm.size]; omega
    have el : k - (k - l) = l := by omega
    rw [ky_bub hs (by omega), ky_bub hs (by omega), el]
    by_cases i1 : i = l
    · rw [if_pos i1]
      by_cases j1 : j = l
      · rw [if_pos j1]; exact Int.le_refl _
      · rw [if_neg j1, if_pos ⟨by omega, by omega⟩]
        exact Int.le_of_lt (h2 (j - 1) (by omega) (by omega))
    · rw [if_neg i1]
      by_cases i2 : l < i ∧ i ≤ k
      · rw [if_pos i2, if_neg (by omega), if_pos ⟨by omega, by omega⟩]
        exact hu _ _ (by omega) (by omega)
      · rw [if_neg i2]
        by_cases j1 : j = l
        · rw [if_pos j1]; exact h1 i (by omega)
        · rw [if_neg j1]
          by_cases j2 : l < j ∧ j ≤ k
          · rw [if_pos j2]; exact hu _ _ (by omega) (by omega)
          · rw [if_neg j2]; exact hu _ _ hij (by omega)
theorem sort_ok {Q : Array Nat → Shared → Prop} (kk : ∀ p, PmA N p → UpA key p N → Q p s) : (kas_sort N).kasWp cmp Q s := by
  unfold kas_sort
  rw [KasT.kasWp_bind]
  refine count_ok hc h0 ⟨Array.Perm.refl _⟩ fun m p pm hm hN hu => ?_
  dsimp only
  have e : max m 1 = m := by omega
  by_cases h : m < N
  · rw [if_pos h, e]
    exact bin_ok hc h0 kk _ p m pm hm (by omega) hu
  · rw [if_neg h]
    have e : m = N := by omega
    subst e
    exact kk p pm hu
end
end L2
set_option Elab.async false
set_option linter.all false
set_option maxRecDepth 100000
namespace L2
open PySem PySem.Spec PySem.W PySem.Calls PyProof.Rows
section
variable {prog : Program} {w : World} {A : Around} {E : Value → Shared → Prop} {s : Shared}
theorem pair_lt {x y : Addr} {ox oy : Obj} {n k : Nat} {a b c d : Int} {t1 t2 t3 t4 : Tok} {Q : Bool → Shared → Prop} (hx : s.heap.get? x = some ox) (dx : ox.data = .seq #[.int a t1, .int b t2] n) (hy : s.heap.get? y = some oy) (dy : oy.data = .seq #[.int c t3, .int d t4] k)
    (hu : A.units < cLine) (h : Q (decide (a < c ∨ a = c ∧ b < d)) s) : wpAny (model prog w) A (keyLt' (tuples' true) (.ref x) (.ref y)) Q E s := by
  refine kat_lt hx dx hy dy (kat_cons (wpAny_eqBool_int ?_))
  by_cases e1 : a = c
  · subst e1
    rw [show (a == a) = true by simp]
    refine kat_yes (kat_cons (wpAny_eqBool_int ?_))
    by_cases e2 : b = d
    · subst e2
      rw [show (b == b) = true by simp]
      refine kat_yes (kat_nil ?_)
      have : decide (a < a ∨ a = a ∧ b < b) = false := by simp
      rw [this] at h
      exact h
    · rw [show (b == d) = false by simp [e2]]
      refine kat_no (kat_one _ _ ?_)
      have : decide (a < a ∨ a = a ∧ b < d) = decide (b < d) := by simp
      rw [this] at h
      exact PySem.P.lt_int h
  · rw [show (a == c) = false by simp [e1]]
    refine kat_no ?_
    have : decide (a < c ∨ a = c ∧ b < d) = decide (a < c) := by simp [e1]
    rw [this] at h
    exact oneLt_int h
end
section
variable {X : Cx} {pins : List (Addr × Obj)} {σ : St} {H : Hp} {s : Shared}
theorem vals_at {ys : List V} {its : List Value} (r : Vals ys its) : ∀ (π : List Nat), (∀ i ∈ π, i < ys.length) → Vals (π.map fun i => ys.getD i V.non) (π.map fun i => its.getD i Value.none)
  | [], _ => .nil
  | i :: π, h => by
    have hi := h i List.mem_cons_self
    have e1 : ys[i]? = some ys[i] := List.getElem?_eq_getElem hi
    obtain ⟨u, e2, r2⟩ := r.get e1
    refine .cons ?_ (vals_at r π fun j hj => h j (List.mem_cons_of_mem _ hj))
    show RelV (ys.getD i V.non) (its.getD i Value.none)
    rw [List.getD_eq_getElem?_getD, List.getD_eq_getElem?_getD, e1, e2]
    exact r2
def allN (base h : Heap) (L : Addr) : List (Addr × Obj) := (List.range h.objs.size).filterMap fun b => match h.get? b with
  | some o => if b ≠ L ∧ (base.get? b).isNone = true then some (b, o) else none
  | none => none
theorem allN_news {base h : Heap} {L : Addr} : News base L h (allN base h L) := fun p hp => by
  obtain ⟨b, hb, e⟩ := List.mem_filterMap.mp hp
  split at e
  · rename_i o ho
    split at e
    · rename_i hc
      cases e
      exact ⟨ho, hc.1, by simpa using hc.2⟩
    · cases e
  · cases e
theorem allN_mem {base h : Heap} {L b : Addr} {o : Obj} (ho : h.get? b = some o) (hL : b ≠ L) (hb : base.get? b = none) : (b, o) ∈ allN base h L := by
  refine List.mem_filterMap.mpr ⟨b, List.mem_range.mpr (Heap.lt_size ho), ?_⟩
  rw [ho]
  show (if b ≠ L ∧ (base.get? b).isNone = true then some (b, o) else none) = some (b, o)
  rw [if_pos ⟨hL, by rw [hb]; rfl⟩]
theorem Inv.newAt {h' : Heap} {m : Str → Option Value} {D : Addr} {zs : List V} {out : List Value} {c : Nat} (I : Inv X pins σ H s) (hn : s.heap.Ns X.env.locals m) (F : Fr X.base X.env.locals h' m) (N : News X.base X.env.locals h' ((D, listOf out.toArray c) :: allN X.base s.heap X.env.locals))
    (hD : ∀ q ∈ allN X.base s.heap X.env.locals, q.1 < D) (r : Vals zs out) (hz : zs.length ≤ sizeLine) : H D = none ∧ Inv X pins σ (upd H D (.lst zs)) { s with heap := h' } := by
  obtain ⟨d1, d2, d3⟩ := N _ List.mem_cons_self
  have d0 : s.heap.get? D = none := by
    cases e : s.heap.get? D with
    | none => rfl
    | some o => exact absurd (hD _ (allN_mem e d2 d3)) (Nat.lt_irrefl _)
  have hHD : H D = none := I.hok.gone d0
  have keep : ∀ b o, s.heap.get? b = some o → b ≠ X.env.locals → h'.get? b = some o := fun b o e hb => by
    cases q : X.base.get? b with
    | some o2 =>
      have e2 := I.bk b o2 q
      rw [e] at e2
      cases e2
      exact F.keep b o q
    | none => exact (N _ (List.mem_cons_of_mem _ (allN_mem e hb q))).1
  have neD : ∀ b o, s.heap.get? b = some o → b ≠ D := fun b o e z => by rw [z, d0] at e; cases e
  have nL : ∀ b u, H b = some u → b ≠ X.env.locals := fun b u e z => by rw [z, I.free] at e; cases e
  refine ⟨hHD, I.step (g' := s.gens) (d' := s.drawn) (t' := s.toks) (ch := []) (fun _ z => nomatch z) (fun b o hb _ _ e _ => keep b o e hb) (fun b o hb _ _ e _ => ⟨o.slots, keep b o e hb⟩) (fun b o _ e n => by rw [upd_ne (neD b o e)]; exact n) (fun b o _ e => ?_)
    (fun b xs e => by rw [upd_ne (ne_of_none e hHD)]; exact e) (fun b o u e => by rw [upd_ne (ne_of_none e hHD)]; exact e) (fun b ps e => ⟨#[], by rw [upd_ne (ne_of_none e hHD), e]; simp⟩) (fun m2 hm2 => ?_) (fun b u e => ?_) I.bare⟩
  · by_cases hb : b = X.env.locals
    · obtain ⟨oL, _, _, hoL, _⟩ := F.ns
      exact ⟨oL, by rw [hb]; exact hoL⟩
    · exact ⟨o, keep b o e hb⟩
  · have em : m2 = m := by
      obtain ⟨o1, es1, ep1, a1, a2, _, a4⟩ := hm2
      obtain ⟨o2, es2, ep2, b1, b2, _, b4⟩ := hn
      rw [a1] at b1
      cases b1
      rw [a2] at b2
      cases b2
      funext x
      rw [← a4, ← b4]
    rw [em]; exact F.ns
  · by_cases hb : b = D
    · subst hb
      rw [upd_same] at e
      cases e
      exact ⟨hz, out, c, r, d1⟩
    · rw [upd_ne hb] at e
      refine (I.hok b u e).stay (fun c v hc q => keep c v q ?_) (fun c q => by rw [upd_ne (ne_of_none q hHD)]; exact q) fun c xs q => by rw [upd_ne (ne_of_none q hHD)]; exact q
      rcases hc with rfl | hc
      · exact nL c _ e
      · exact nL c _ hc
end
end L2
set_option Elab.async false
set_option linter.all false
set_option maxRecDepth 100000
namespace L2
open PySem PySem.Spec PySem.W PySem.Calls PyProof.Rows
section
variable {prog : Program} {w : World} {A : Around} {E : Value → Shared → Prop} {s : Shared}
theorem zip_same {α : Type} : ∀ l : List α, l.zip l = l.map fun x => (x, x)
  | [] => rfl
  | a :: l => by rw [List.zip_cons_cons, zip_same l, List.map_cons]
theorem sort_short {a : Addr} {vs : List Value} {n : Nat} {P : PySem.Fin → Shared → Prop} (ho : s.heap.get? a = some (seqObj "list" vs.toArray n)) (h2 : vs.length < 2)
    (h : P (.done (.ret .none)) { s with heap := sortedHeap s.heap a vs vs.toArray }) : wpAny (model prog w) A (Builtin.«list.sort» ⟨[.ref a], []⟩) P E s := by
  rw [list_sort_plain]
  obtain ⟨e1, o1⟩ : ∃ e, (s.heap.update a (Obj.mapSeq fun _ => (#[] : Array Value))).get? a = some (seqObj "list" #[] e) := ⟨_, get?_update_seq ho _⟩
  have o6 := Heap.get?_push_of_some (seqObj "list" #[] 0) (Heap.get?_push_of_some (seqObj "tuple" vs.toArray 0) o1)
  have c2 : vs.toArray.size < 2 := by simpa using h2
  have zz : vs.length ≤ sizeLine := by rw [sizeLine_eq]; omega
  refine wpAny_bind (listItems_at ho rfl (wpAny_bind (listUpdate_at ho rfl (wpAny_bind (seqEpoch_at o1 rfl (wpAny_bind (wpAny_newTuple (wpAny_bind (wpAny_newList (wpAny_holding ?_) (Nat.zero_le _))) zz)))) (by simpa using zz) (Nat.zero_le _))))
  simp only [if_pos c2]
  refine wpAny_bind (wpAny_pure ?_)
  rw [StateT.run_pure]
  refine wpAny_bind (wpAny_pure ?_)
  dsimp only
  have eo : (arrOf (SortSt.mk' general' (vs.toArray.zip vs.toArray) #[] 7 none)).map (·.2) = vs.toArray := by
    show (vs.toArray.zip vs.toArray).map (·.2) = vs.toArray
    simp only [List.zip_toArray, List.map_toArray]
    rw [show vs.zip vs = vs.map fun x => (x, x) from zip_same vs, List.map_map]
    exact congrArg List.toArray (List.map_id vs)
  rw [eo]
  refine wpAny_bind (seqEpoch_at o6 rfl (wpAny_bind (listUpdate_at o6 rfl ?_ (Nat.zero_le _) (by simpa using Nat.le_succ_of_le zz))))
  simp only [bne_self_eq_false, Bool.false_eq_true, if_false]
  exact wpAny_pure h
theorem sorted_short {l : Addr} {vs : List Value} {Q : Value → Shared → Prop} (hl : s.heap.IsList l vs.toArray) (h2 : vs.length < 2) (h : Q (.ref (s.heap.objs.size + 1)) { s with heap := sortedAll s.heap vs vs.toArray }) : wpAny (model prog w) A (call (.builtin "sorted") [.ref l]) Q E s := by
  have zz : vs.length ≤ sizeLine := by rw [sizeLine_eq]; omega
  apply Calls.call_function_entry kind_sorted plain_sorted entry_sorted
  · exact args_sorted1 _
  unfold Builtin.«sorted»
  refine wpAny_bind (m := checkCount "sorted" 1 1 _) (wpAny_pure (wpAny_bind (collect_list hl (wpAny_bind (wpAny_newList ?_ zz)) zz)))
  have hz : ((s.heap.push (seqObj "list" #[] 0)).update s.heap.objs.size (Obj.mapSeq (· ++ vs.toArray))).objs.size = s.heap.objs.size + 1 := (Heap.size_update ..).trans (size_push' ..)
  have ol : (((s.heap.push (seqObj "list" #[] 0)).update s.heap.objs.size (Obj.mapSeq (· ++ vs.toArray))).push (seqObj "list" vs.toArray 0)).get? (s.heap.objs.size + 1) = some (seqObj "list" vs.toArray 0) := hz ▸ Heap.get?_push_size _ rfl
  change wpAny _ _ _ _ _ { s with heap := ((s.heap.push (seqObj "list" #[] 0)).update s.heap.objs.size (Obj.mapSeq (· ++ vs.toArray))).push (seqObj "list" vs.toArray 0) }
  rw [hz]
  exact wpAny_bind (wpAny_holding (wpAny_call_entry slot_list_sort ⟨_, ol, rfl⟩ entry_list_sort (sort_short ol h2 ⟨_, rfl, wpAny_pure ⟨_, rfl, h⟩⟩) (args_list_sort _)))
end
theorem range_getD {α : Type} (l : List α) (d : α) : (List.range l.length).map (fun i => l.getD i d) = l := by
  apply List.ext_getElem
  · simp
  · intro i h1 h2
    simp [h2]
def keyP (B : Int) (ps : List (Int × Int)) (i : Nat) : Int := (ps.getD i (0, 0)).1 * B + (ps.getD i (0, 0)).2
theorem key_lex {B a b c d : Int} (h1 : 0 ≤ b) (h2 : b < B) (h3 : 0 ≤ d) (h4 : d < B) : (a < c ∨ a = c ∧ b < d) ↔ a * B + b < c * B + d := by
  constructor
  · rintro (h | ⟨rfl, h⟩)
    · have : (a + 1) * B ≤ c * B := Int.mul_le_mul_of_nonneg_right (by omega) (by omega)
      rw [Int.add_mul, Int.one_mul] at this
      omega
    · omega
  · intro h
    by_cases e : a = c
    · subst e; right; exact ⟨rfl, by omega⟩
    · left
      apply Decidable.byContradiction
      intro z
      have : (c + 1) * B ≤ a * B := Int.mul_le_mul_of_nonneg_right (by omega) (by omega)
      rw [Int.add_mul, Int.one_mul] at this
      omega
section
variable {X : Cx}
theorem call_sortP (K : PySem.W.Frag) (hK : X.K = K) (hu : X.A.units + 40 < cLine) : CallR X (.builtin "sorted") (fun xs H Q => ∃ (p : Addr) (ys : List V) (ps : List (Int × Int)) (B : Int), xs = [.ref p] ∧ SqL K H p ys ∧ ys.length = ps.length ∧
    (∀ (i : Nat) (q : Int × Int), ps[i]? = some q → ∃ a, ys[i]? = some (.ref a) ∧ H a = some (.tup [.int q.1, .int q.2])) ∧ ps.length < 64 ∧ (∀ q ∈ ps, 0 ≤ q.2 ∧ q.2 < B) ∧
    ∀ (l : Addr) (π : List Nat), H l = none → π.Perm (List.range ps.length) → (∀ i j, i ≤ j → j < π.length → keyP B ps (π.getD i 0) ≤ keyP B ps (π.getD j 0)) → Q (.ref l) (upd H l (.lst (π.map fun i => ys.getD i V.non)))) := by
  subst hK
  intro pins s σ H xs us Q I r h
  obtain ⟨p, ys, ps, B, rfl, hq, hl, hat, h64, hB, k⟩ := h
  obtain ⟨u, rfl, r1⟩ := vals1 r
  cases (show u = Value.ref p from r1)
  obtain ⟨its, rv, ⟨op, n0, hop, hc, _, hd⟩, hz⟩ := I.list hq
  have hL : s.heap.IsList p its.toArray := ⟨op, hop, hc, n0, hd⟩
  have hil : its.length = ps.length := by rw [← rv.length, hl]
  obtain ⟨m, hn, _⟩ := id I.loc
  have F0 : Fr X.base X.env.locals s.heap m := ⟨hn, I.bk, Nat.le_trans I.ok.bsz I.ok.above⟩
  by_cases h2 : its.length < 2
  · refine sorted_short hL h2 ?_
    obtain ⟨e, at_⟩ := sortedAll_at s.heap its its.toArray
    have er : (List.range ps.length).map (fun i => ys.getD i V.non) = ys := by rw [← hl]; exact range_getD ys V.non
    have hf : H (s.heap.objs.size + 1) = none := I.hok.fresh (Nat.le_succ _)
    refine ⟨.ref (s.heap.objs.size + 1), upd H (s.heap.objs.size + 1) (.lst ((List.range ps.length).map fun i => ys.getD i V.non)), ?_, rfl, k _ _ hf (List.Perm.refl _) fun i j hij hj => ?_⟩
    · rw [er]
      exact I.laid (t' := s.toks) (fun b o e => sortedAll_old e) (Nat.le_succ _) ⟨hz, its, e, rv, at_⟩
    · rw [List.length_range] at hj
      have : i = j := by omega
      rw [this]
      exact Int.le_refl _
  have h2 : 2 ≤ its.length := by omega
  refine kat_sorted F0 (allN_news (base := X.base)) hL h2 (by omega) fun D e1 h' F N hD => ?_
  have keep : ∀ b o, s.heap.get? b = some o → b ≠ X.env.locals → h'.get? b = some o := fun b o e hb => by
    cases q : X.base.get? b with
    | some o2 =>
      have e2 := I.bk b o2 q
      rw [e] at e2
      cases e2
      exact F.keep b o q
    | none => exact (N _ (List.mem_cons_of_mem _ (allN_mem e hb q))).1
  have tupAt : ∀ (i : Nat), i < its.length → ∃ a o n t1 t2, its.getD i Value.none = .ref a ∧ h'.get? a = some o ∧ o.cls = .type "tuple" ∧ o.data = .seq #[.int (ps.getD i (0, 0)).1 t1, .int (ps.getD i (0, 0)).2 t2] n := fun i hi => by
    have e1 : ps[i]? = some ps[i] := List.getElem?_eq_getElem (by omega)
    obtain ⟨a, ha, hH⟩ := hat i _ e1
    obtain ⟨u, e2, r2⟩ := rv.get ha
    cases (show u = Value.ref a from r2)
    obtain ⟨_, ts, rt, ot, ho, ct, nt, dt⟩ := (show ObjOk X.prog X.w H s.heap a (.tup [.int ps[i].1, .int ps[i].2]) from I.hok a _ hH)
    obtain ⟨u1, u2, rfl, q1, q2⟩ := vals2 rt
    obtain ⟨t1, rfl⟩ := (show ∃ t, u1 = Value.int ps[i].1 t from q1)
    obtain ⟨t2, rfl⟩ := (show ∃ t, u2 = Value.int ps[i].2 t from q2)
    have ep : ps.getD i (0, 0) = ps[i] := by simp [show i < ps.length by omega]
    refine ⟨a, ot, nt, t1, t2, ?_, keep a ot ho fun z => ?_, ct, ?_⟩
    · rw [List.getD_eq_getElem?_getD, e2]; rfl
    · rw [z, I.free] at hH; cases hH
    · rw [ep]; exact dt
  have tups : ∀ (l : List Value), (∀ v ∈ l, ∃ a o n t1 t2 x y, v = .ref a ∧ h'.get? a = some o ∧ o.cls = .type "tuple" ∧ o.data = .seq #[.int x t1, .int y t2] n) → ∃ fs, fs.length = l.length ∧ KatTups h' l fs ∧ ∀ f ∈ fs, ∃ x t, f = Value.int x t := fun l => by
    induction l with
    | nil => exact fun _ => ⟨[], rfl, KatTups.nil, fun _ z => nomatch z⟩
    | cons v l ih =>
      intro hv
      obtain ⟨fs, f1, f2, f3⟩ := ih fun v hm => hv v (List.mem_cons_of_mem _ hm)
      obtain ⟨a, o, n, t1, t2, x, y, rfl, a1, a2, a3⟩ := hv v List.mem_cons_self
      exact ⟨.int x t1 :: fs, by rw [List.length_cons, List.length_cons, f1], KatTups.cons a1 a2 a3 rfl f2, fun f hf => (List.mem_cons.mp hf).elim (fun z => ⟨x, t1, z⟩) (f3 f)⟩
  obtain ⟨fs, f1, f2, f3⟩ := tups its fun v hv => by
    obtain ⟨i, hi, e⟩ := List.getElem_of_mem hv
    obtain ⟨a, o, n, t1, t2, e1, a1, a2, a3⟩ := tupAt i hi
    have e2 : its.getD i Value.none = v := by simp [hi, e]
    exact ⟨a, o, n, t1, t2, _, _, e2 ▸ e1, a1, a2, a3⟩
  refine kat_kind (T := .type "int") f2 (by omega) (fun v hv => ?_) (by decide) ?_
  · obtain ⟨x, t, rfl⟩ := f3 v hv
    exact Looks.of_pure rfl
  rw [show (Value.type "int" != Value.type "tuple") = true by decide]
  refine sort_ok (key := keyP B ps) (N := its.length) (fun i j C hi hj hC => ?_) (by omega) fun pm hp hup => ?_
  · obtain ⟨a, o, n, t1, t2, e1, a1, _, a3⟩ := tupAt i hi
    obtain ⟨a', o', n', t1', t2', e1', a1', _, a3'⟩ := tupAt j hj
    unfold kas_ask
    rw [e1, e1']
    refine pair_lt a1 a3 a1' a3' (by show X.A.units + 1 + 1 < cLine; omega) ?_
    have bi := hB (ps.getD i (0, 0)) (by rw [List.getD_eq_getElem?_getD, List.getElem?_eq_getElem (by omega)]; exact List.getElem_mem _)
    have bj := hB (ps.getD j (0, 0)) (by rw [List.getD_eq_getElem?_getD, List.getElem?_eq_getElem (by omega)]; exact List.getElem_mem _)
    rw [show decide ((ps.getD i (0, 0)).1 < (ps.getD j (0, 0)).1 ∨ (ps.getD i (0, 0)).1 = (ps.getD j (0, 0)).1 ∧ (ps.getD i (0, 0)).2 < (ps.getD j (0, 0)).2) = decide (keyP B ps i < keyP B ps j) from decide_eq_decide.mpr (key_lex bi.1 bi.2 bj.1 bj.2)]
    exact hC
  · have pl : pm.toList.Perm (List.range its.length) := by simpa using Array.perm_iff_toList_perm.mp hp.pm
    have pin : ∀ i ∈ pm.toList, i < its.length := fun i hi => List.mem_range.mp (pl.mem_iff.mp hi)
    refine KasFin.intro F N (.head fun q hq z => ?_) fun h2 c F2 N2 => ?_
    · exact absurd (hD q hq) (by rw [z]; exact Nat.lt_irrefl _)
    · have J := I.newAt hn F2 N2 hD (vals_at rv pm.toList fun i hi => by rw [rv.length]; exact pin i hi) (by rw [List.length_map, pl.length_eq, List.length_range, ← rv.length]; exact hz)
      refine ⟨.ref D, _, J.2, rfl, k D pm.toList J.1 (by rw [← hil]; exact pl) fun i j hij hj => ?_⟩
      have hup := hup i j hij (by rw [Array.length_toList, hp.size] at hj; exact hj)
      unfold kyA at hup
      rw [show pm.toList.getD i 0 = pm.getD i 0 by simp [Array.getD_eq_getD_getElem?], show pm.toList.getD j 0 = pm.getD j 0 by simp [Array.getD_eq_getD_getElem?]]
      exact hup
end
end L2
namespace L2
open PySem PySem.Spec PyProof.Rows
theorem bt_sorted : bootBuiltins "sorted" = some (.builtin "sorted") := by decide +kernel
abbrev pr2 (q : Int × Int) : PyData := .tuple [.int q.1, .int q.2]
section
variable {He : Hp} {K : PySem.W.Frag} {ι : Type} {Y : ι → Cx} {e : Expr} {pos p : Pos}
def xSortP (t : Dq) : Dq := fun env P => t env fun xs => ∃ (ps : List (Int × Int)) (B : Int), xs = ps.map pr2 ∧ ps.length < 64 ∧ (∀ q ∈ ps, 0 ≤ q.2 ∧ q.2 < B) ∧ ∀ qs : List (Int × Int), qs.Perm ps → qs.Pairwise (fun x y => x.1 * B + x.2 ≤ y.1 * B + y.2) → P (qs.map pr2)
theorem rp_at {R : Hp} {ys : List V} {ds : List PyData} (r : RpAll K R ys ds) : ∀ (π : List Nat), (∀ i ∈ π, i < ys.length) → RpAll K R (π.map fun i => ys.getD i V.non) (π.map fun i => ds.getD i PyData.none)
  | [], _ => .nil
  | i :: π, h => by
    have hi := h i List.mem_cons_self
    have e1 : ys[i]? = some ys[i] := List.getElem?_eq_getElem hi
    obtain ⟨d, e2, r2⟩ := r.get e1
    refine .cons ?_ (rp_at r π fun j hj => h j (List.mem_cons_of_mem _ hj))
    show Rp K R (ys.getD i V.non) (ds.getD i PyData.none)
    rw [List.getD_eq_getElem?_getD, List.getD_eq_getElem?_getD, e1, e2]
    exact r2
theorem do_sortP {t : Dq} (h : DL He K Y e t) (hm : ∀ i, (Y i).mg "sorted" = none) (hu : ∀ i, (Y i).A.units + 40 < cLine) (hg : autoParam (∀ i, Gl (Y i) "sorted") u4._auto_1) (hK : autoParam (∀ i, (Y i).K = K) u4._auto_1) (hs : autoParam (∀ i, starEach [e] (Y i).env = [(false, eval e (Y i).env)]) u4._auto_1) :
    DO He K Y (.Call (.Name "sorted" p) [e] [] pos) (xSortP t) := by
  obtain ⟨te, h1, h2⟩ := h
  refine ⟨_, fun i => pe_callB (call_sortP K (hK i) (hu i)) (hg i) (hm i) bt_sorted (pa_cons (h1 i) pa_nil (hs i)) (by decide) (by decide) (hs i) rfl, fun P Q F p k => h2 _ _ F p fun ds a ys R1 H1 pd e1 ha r1 => ?_⟩
  obtain ⟨ps, B, rfl, h64, hB, kk⟩ := pd
  have hl : ys.length = ps.length := by rw [r1.len, List.length_map]
  refine ⟨a, ys, ps, B, rfl, SqL.of ha, hl, fun i q hq => ?_, h64, hB, fun l π hn hp hs => ?_⟩
  · obtain ⟨v, hv, rv⟩ := r1.get' (i := i) (d := pr2 q) (by rw [List.getElem?_map, hq]; rfl)
    obtain ⟨b, zs, rfl, hb, rz⟩ := rv.tup_inv
    cases rz with
    | cons z1 rz =>
      cases rz with
      | cons z2 rz =>
        cases rz
        rw [z1.int_inv, z2.int_inv] at hb
        exact ⟨b, hv, e1.rh _ _ hb⟩
  · have pin : ∀ i ∈ π, i < ps.length := fun i hi => List.mem_range.mp (hp.mem_iff.mp hi)
    have er : (π.map fun i => (ps.map pr2).getD i PyData.none) = (π.map fun i => ps.getD i (0, 0)).map pr2 := by
      rw [List.map_map]
      refine List.map_congr_left fun i hi => ?_
      have := pin i hi
      simp [this]
    have ra := rp_at r1 π fun i hi => by rw [hl]; exact pin i hi
    rw [er] at ra
    have hp2 : (π.map fun i => ps.getD i (0, 0)).Perm ps := by
      have := hp.map fun i => ps.getD i (0, 0)
      rwa [range_getD] at this
    have hpw : (π.map fun i => ps.getD i (0, 0)).Pairwise (fun x y => x.1 * B + x.2 ≤ y.1 * B + y.2) := by
      rw [List.pairwise_iff_getElem]
      intro i j hi hj hij
      rw [List.length_map] at hi hj
      have z := hs i j (by omega) hj
      unfold keyP at z
      simp only [List.getElem_map]
      rw [show π.getD i 0 = π[i] by simp [hi], show π.getD j 0 = π[j] by simp [hj]] at z
      exact z
    exact k _ l _ R1 _ (kk _ hp2 hpw) (e1.trans (Ext.newO e1.wd hn trivial)) (e1.hh.free hn) upd_same (e1.wd.rh.free hn) ra
end
end L2
namespace L2
open PySem PySem.Spec PyProof.Rows
section
variable {He : Hp} {K : PySem.W.Frag} {ι : Type} {Y : ι → Cx} {pos : Pos}
theorem de_gint {x : Str} {i : Int} (h : ∀ j, ∃ t, (Y j).mg x = some (.int i t)) (hg : autoParam (∀ j, Gl (Y j) x) u4._auto_1) (hd : autoParam ((x == ("__debug__" : Str)) = false) u2._auto_1) : DE He K Y (.Name x pos) (xC (.int i)) :=
  ⟨tC (.int i), fun j => by
    obtain ⟨t, e⟩ := h j
    exact pe_glob (hg j) e ⟨t, rfl⟩ hd, fun P Q f p k => k _ _ _ _ p (.refl f.wd) (.int i)⟩
end
end L2
namespace L2
open PySem PySem.Spec PyProof.Rows
section
variable {He : Hp} {K : PySem.W.Frag} {ι : Type} {Y : ι → Cx} {e : Expr} {pos : Pos}
def sExp (t : De) : Ds := fun D env => t env fun _ => D.nx env
theorem ds_expr {t : De} (h : DE He K Y e t) (hs : autoParam (∀ i, swapsWith e none pos.line (Y i).env = pure false) u4._auto_1) : DS He K Y (.Expr e pos) (sExp t) := by
  obtain ⟨te, h1, h2⟩ := h
  exact ⟨_, fun i => ps_expr (h1 i) (hs i), fun D E F s c p => h2 _ _ F p fun d v R' H' q e r => c.nx _ _ _ _ q (s.trans e.rr) (F.next e)⟩
end
end L2
set_option Elab.async false
set_option linter.all false
set_option maxRecDepth 100000
namespace L2
open PySem PySem.Spec PyProof.Rows
def getKD (kvs : List (Key × PyData)) (k : Key) : Option PyData := (kvs.find? fun kv => decide (kv.1 = k)).map (·.2)
def putKD (kvs : List (Key × PyData)) (k : Key) (v : PyData) : List (Key × PyData) :=
  if (kvs.any fun kv => decide (kv.1 = k)) = true then kvs.map (fun kv => if kv.1 = k then (kv.1, v) else kv) else kvs ++ [(k, v)]
section
variable {K : PySem.W.Frag} {R : Hp}
theorem KvR.val {k : Key} : ∀ {l : List (Key × V)} {m : List (Key × PyData)}, KvR K R l m → (valV l k = none ∧ getKD m k = none) ∨ ∃ v d, valV l k = some v ∧ getKD m k = some d ∧ Rp K R v d := by
  intro l m h
  induction h with
  | nil => exact .inl ⟨rfl, rfl⟩
  | @cons p q ps qs h t ih =>
    by_cases e : p.1 = k
    · exact .inr ⟨p.2, q.2, valV_pos e, by unfold getKD; rw [List.find?_cons_of_pos (by rw [← h.1]; simpa using e)]; rfl, h.2⟩
    · rw [valV_neg e, show getKD (q :: qs) k = getKD qs k by unfold getKD; rw [List.find?_cons_of_neg (by rw [← h.1]; simpa using e)]]
      exact ih
theorem KvR.any {k : Key} : ∀ {l : List (Key × V)} {m : List (Key × PyData)}, KvR K R l m → (l.any fun kv => decide (kv.1 = k)) = (m.any fun kv => decide (kv.1 = k)) := by
  intro l m h
  induction h with
  | nil => rfl
  | @cons p q ps qs h t ih => rw [List.any_cons, List.any_cons, ih, h.1]
theorem KvR.put {k : Key} {v : V} {d : PyData} {l : List (Key × V)} {m : List (Key × PyData)} (h : KvR K R l m) (r : Rp K R v d) : KvR K R (putK l k v) (putKD m k d) := by
  unfold putK putKD
  rw [h.any]
  split
  · rename_i hz; clear hz
    induction h with
    | nil => exact .nil
    | @cons p q ps qs h t ih =>
      rw [List.map_cons, List.map_cons]
      refine .cons ?_ ih
      by_cases e : p.1 = k
      · rw [if_pos e, if_pos (by rw [← h.1]; exact e)]; exact ⟨h.1, r⟩
      · rw [if_neg e, if_neg (by rw [← h.1]; exact e)]; exact h
  · rename_i hz; clear hz
    induction h with
    | nil => exact .cons ⟨rfl, r⟩ .nil
    | @cons p q ps qs h t ih => exact .cons h ih
theorem KvR.len {l : List (Key × V)} {m : List (Key × PyData)} (h : KvR K R l m) : l.length = m.length := Paired.length h
end
section
variable {He : Hp} {K : PySem.W.Frag} {ι : Type} {Y : ι → Cx} {e a b c : Expr} {es : List Expr} {pos : Pos}
theorem Fra.dkAt {H0 R H : Hp} {σ : St} {env : List Dt} {i : Nat} {kvs : List (Key × PyData)} (F : Fra He K H0 R H σ env) (h : env[i]? = some (.dk kvs)) : ∃ a ys, σ[i]? = some (some (.ref a)) ∧ H a = some (.dK ys) ∧ R a = none ∧ H0 a = none ∧ KvR K R ys kvs := by
  obtain ⟨v, hs, a, ys, rfl, h2, h3, h4, h5⟩ := F.get h (by intro z; cases z)
  exact ⟨a, ys, hs, h2, h3, h4, h5⟩
def sNewK (i : Nat) : Ds := fun D env => D.nx (env.set i (.dk []))
theorem ds_newK (i : Nat) {x : Str} {p2 p3 : Pos} (hN : ∀ j, (Y j).N.Nodup) (hi : autoParam (∀ j, (Y j).N[i]? = some x) u4._auto_1) (hx : autoParam (∀ j, Loc (Y j).env.scope x) u13._auto_1)
    (hs : autoParam (∀ j, swapsWith (.Dict [] [] p3) (some (.Name x p2)) pos.line (Y j).env = pure false) u4._auto_1) (hf : autoParam (∀ j, (Y j).fn x = true ∨ (Y j).env.scope.names.lookup x = some .local) u14._auto_1) :
    DS He K Y (.Assign [.Name x p2] (.Dict [] [] p3) pos) (sNewK i) :=
  ⟨_, fun j => ps_set (hN j) (hi j) (hx j) pe_dnewK (hs j) (hf j), fun D E F s c p q hn => c.nx _ _ _ _ p s (F.setN (Ext.newO (o := .dK []) F.wd hn trivial) i hn ⟨q, [], rfl, upd_same, F.wd.rh.free hn, F.ext.hh.free hn, .nil⟩)⟩
def sNewK1 (i : Nat) (ta tb : De) : Ds := fun D env => ta env fun x => ∃ k, x = .int k ∧ tb env fun v => D.nx (env.set i (.dk [(.inl k, v)]))
theorem ds_newK1 (i : Nat) {x : Str} {p2 p3 : Pos} {ta tb : De} (hN : ∀ j, (Y j).N.Nodup) (ha : DE He K Y a ta) (hb : DE He K Y b tb) (hi : autoParam (∀ j, (Y j).N[i]? = some x) u4._auto_1) (hx : autoParam (∀ j, Loc (Y j).env.scope x) u13._auto_1)
    (hs : autoParam (∀ j, swapsWith (.Dict [some a] [b] p3) (some (.Name x p2)) pos.line (Y j).env = pure false) u4._auto_1) (hf : autoParam (∀ j, (Y j).fn x = true ∨ (Y j).env.scope.names.lookup x = some .local) u14._auto_1) :
    DS He K Y (.Assign [.Name x p2] (.Dict [some a] [b] p3) pos) (sNewK1 i ta tb) := by
  obtain ⟨t1, a1, a2⟩ := ha
  obtain ⟨t2, b1, b2⟩ := hb
  refine ⟨_, fun j => ps_set (hN j) (hi j) (hx j) (pe_disp (pps_cons (a1 j) (b1 j) pps_nil) rfl rfl (by intro z; cases z) (Nat.le_of_ble_eq_true rfl)) (hs j) (hf j), fun D E F s c p q hn => ?_⟩
  have e0 := Ext.newO (o := .dK []) F.wd hn trivial
  refine a2 _ _ (F.next e0) p fun d v R1 H1 ⟨k, hk, p1⟩ e1 r1 => ?_
  subst hk
  refine b2 _ _ (F.next (e0.trans e1)) p1 fun d2 v2 R2 H2 p2 e2 r2 => ?_
  have e := e0.trans (e1.trans e2)
  have at2 : H2 q = some (.dK []) := (e1.trans e2).hh q _ upd_same
  have rq : R2 q = none := (e1.trans e2).nn q _ upd_same (F.wd.rh.free hn)
  refine ⟨at2, [(.inl k, v2)], by rw [r1.int_inv]; rfl, Nat.le_of_ble_eq_true rfl, ?_⟩
  have em := Ext.mut (o := .dK (mergeK [] [(.inl k, v2)])) e hn rq trivial
  exact c.nx _ _ _ _ p2 (s.trans em.rr) (F.setN em i hn ⟨q, _, rfl, upd_same, rq, F.ext.hh.free hn, .cons ⟨rfl, r2⟩ .nil⟩)
def sPutK (i : Nat) (ta tb : De) : Ds := fun D env => tb env fun v => ∃ kvs, env[i]? = some (.dk kvs) ∧ kvs.length < 100000 ∧ ta env fun y => ∃ k, y = .int k ∧ D.nx (env.set i (.dk (putKD kvs (.inl k) v)))
theorem ds_putK (i : Nat) {x : Str} {p2 p3 : Pos} {ta tb : De} (hu : ∀ j, (Y j).A.units + 1 < cLine) (ha : DE He K Y a ta) (hb : DE He K Y b tb) (hv : autoParam (∀ j, PE (Y j) (.Name x p2) (tVar i)) u9._auto_1)
    (hs : autoParam (∀ j, swapsWith b (some (.Subscript (.Name x p2) a p3)) pos.line (Y j).env = pure false) u4._auto_1) :
    DS He K Y (.Assign [.Subscript (.Name x p2) a p3] b pos) (sPutK i ta tb) := by
  obtain ⟨t1, a1, a2⟩ := ha
  obtain ⟨t2, b1, b2⟩ := hb
  refine ⟨_, fun j => ps_dput (hu j) (hv j) (a1 j) (b1 j) (hs j), fun D E F s c p => ?_⟩
  refine b2 _ _ F p fun d v R1 H1 ⟨kvs, hx, hl, p1⟩ e1 r1 => ?_
  obtain ⟨q, ys, h1, h2, h3, h4, h5⟩ := (F.next e1).dkAt hx
  refine ⟨_, h1, a2 _ _ (F.next e1) p1 fun d2 v2 R2 H2 ⟨k, hk, p2⟩ e2 r2 => ?_⟩
  subst hk
  have F2 := (F.next e1).next e2
  have l2 := e2.hh q _ h2
  refine ⟨q, _, rfl, by rw [r2.int_inv]; exact DPut.k (k := .inl k) l2 (szlt' (by rw [h5.len]; omega)), ?_⟩
  exact c.nx _ _ _ _ p2 (s.trans (e1.trans e2).rr) (F2.mut hx rfl h1 trivial ⟨q, _, rfl, upd_same, e2.nn _ _ h2 h3, h4, (KvR.same e2.rr h5).put (Rp.same e2.rr r1)⟩)
def xInK (i : Nat) (ta : De) : Db := fun env P => ta env fun y => ∃ k kvs, y = .int k ∧ env[i]? = some (.dk kvs) ∧ P (getKD kvs (.inl k)).isSome
def xGetK (i : Nat) (ta : De) : De := fun env P => ∃ kvs, env[i]? = some (.dk kvs) ∧ ta env fun y => ∃ k d, y = .int k ∧ getKD kvs (.inl k) = some d ∧ P d
theorem dt_notinK (i : Nat) {x : Str} {p2 : Pos} {ta : De} (hu : ∀ j, (Y j).A.units + 1 < cLine) (ha : DE He K Y a ta) (hv : autoParam (∀ j, PE (Y j) (.Name x p2) (tVar i)) u9._auto_1)
    (hm : autoParam (behindInMarks .NotIn (.Name x p2) = false) u3._auto_1) : DT He K Y (.Compare a [.NotIn] [.Name x p2] pos) (xNot (xInK i ta)) := by
  obtain ⟨t1, a1, a2⟩ := ha
  refine ⟨_, fun j => pt_cmp (pc_dnotin (hu j) (a1 j) (hv j)) hm, fun P Q F p k => a2 _ _ F p fun d v R1 H1 ⟨n, kvs, hn, hx, p1⟩ e1 r1 => ?_⟩
  subst hn
  obtain ⟨q, ys, h1, h2, h3, h4, h5⟩ := (F.next e1).dkAt hx
  refine ⟨_, h1, q, _, rfl, by rw [r1.int_inv]; exact DGet.k (k := .inl n) h2, !(valV ys (.inl n)).isSome, rfl, ?_⟩
  have : (valV ys (.inl n)).isSome = (getKD kvs (.inl n)).isSome := by
    rcases h5.val (k := .inl n) with ⟨z1, z2⟩ | ⟨v, d, z1, z2, _⟩ <;> simp [z1, z2]
  rw [this]
  exact k _ R1 H1 p1 e1
theorem de_getK (i : Nat) {x : Str} {p2 : Pos} {ta : De} (hu : ∀ j, (Y j).A.units + 1 < cLine) (ha : DE He K Y a ta) (hv : autoParam (∀ j, PE (Y j) (.Name x p2) (tVar i)) u9._auto_1)
    (hs : autoParam (NoSl a) u11._auto_1) : DE He K Y (.Subscript (.Name x p2) a pos) (xGetK i ta) := by
  obtain ⟨t1, a1, a2⟩ := ha
  refine ⟨_, fun j => pe_dget (hu j) (hv j) (a1 j) hs, fun P Q F p k => ?_⟩
  obtain ⟨kvs, hx, p⟩ := p
  obtain ⟨q, ys, h1, h2, h3, h4, h5⟩ := F.dkAt hx
  refine ⟨_, h1, a2 _ _ F p fun d v R1 H1 ⟨n, d', hn, hd, p1⟩ e1 r1 => ?_⟩
  subst hn
  rcases h5.val (k := .inl n) with ⟨z1, z2⟩ | ⟨v', d'', z1, z2, rv⟩
  · rw [hd] at z2; cases z2
  · rw [hd] at z2; cases z2
    exact ⟨q, v', rfl, by rw [r1.int_inv, ← z1]; exact DGet.k (k := .inl n) (e1.hh _ _ h2), k _ _ R1 H1 p1 e1 (Rp.same e1.rr rv)⟩
def sPopL (i j : Nat) : Ds := fun D env => ∃ xs d, env[i]? = some (.o (xs ++ [d])) ∧ D.nx ((env.set i (.o xs)).set j (.d d))
theorem ds_setpop (i j : Nat) {x y : Str} {p2 p3 apos cpos : Pos} (hN : ∀ m, (Y m).N.Nodup) (hv : autoParam (∀ m, PE (Y m) (.Name x p2) (tVar i)) u9._auto_1) (hi : autoParam (∀ m, (Y m).N[j]? = some y) u4._auto_1) (hx : autoParam (∀ m, Loc (Y m).env.scope y) u13._auto_1) (hK : autoParam (∀ m, (Y m).K = K) u4._auto_1)
    (hbase : autoParam (∀ m, attributeBase (.Name x p2) "pop" (Y m).env (eval (.Name x p2) (Y m).env) = eval (.Name x p2) (Y m).env) u4._auto_1) (hline : autoParam ((apos.endLine == cpos.line) = true) u5._auto_1)
    (hs : autoParam (∀ m, swapsWith (.Call (.Attribute (.Name x p2) "pop" apos) [] [] cpos) (some (.Name y p3)) pos.line (Y m).env = pure false) u4._auto_1) (hf : autoParam (∀ m, (Y m).fn y = true ∨ (Y m).env.scope.names.lookup y = some .local) u14._auto_1) :
    DS He K Y (.Assign [.Name y p3] (.Call (.Attribute (.Name x p2) "pop" apos) [] [] cpos) pos) (sPopL i j) := by
  refine ⟨_, fun m => ps_set (hN m) (hi m) (hx m) (pe_bm0K K (hK m) PySem.F.plainAttrs_list PySem.F.slot_list_pop PySem.F.type_list_pop mt_pop (hv m) (hbase m) hline) (hs m) (hf m), fun {H0 R0 R H σ env} D E F s c p => ?_⟩
  obtain ⟨xs, d, ex, p⟩ := p
  obtain ⟨a, ys, h1, h2, h3, h4, h5⟩ := F.lstAt ex
  obtain ⟨v, hv', rv⟩ := h5.get' (i := xs.length) (d := d) (by simp)
  have hl : ys.length = xs.length + 1 := by rw [h5.len]; simp
  have r' : RpAll K R ys.dropLast xs := by
    have := RpAll.take xs.length h5
    rw [List.take_left'] at this
    · rwa [List.dropLast_eq_take, hl]
    · rfl
  refine ⟨_, h1, .inl ⟨rfl, _, SqL.of h2⟩, a, ys, v, rfl, rfl, h2, by rw [hl]; exact hv', ?_⟩
  exact c.nx _ _ _ _ p s ((F.lstSet ex h1 h3 h4 r').setD j rv)
theorem bt_sum : bootBuiltins "sum" = some (.builtin "sum") := by decide +kernel
end
end L2
namespace L2
open PySem PySem.Spec PyProof.Rows PySem.W
section
variable {X : Cx} {pins : List (Addr × Obj)} {σ : St} {H : Hp} {s : Shared}
theorem ints_are : ∀ {ns : List Int} {its : List Value}, Vals (ns.map V.int) its → IntsAre its ns
  | [], _, r => by rw [List.map_nil] at r; cases r; exact IntsAre.nil
  | n :: ns, _, r => by
    rw [List.map_cons] at r
    cases r with
    | cons h t =>
      obtain ⟨tk, rfl⟩ := h
      exact IntsAre.cons _ _ (ints_are t)
theorem call_sumL (K : PySem.W.Frag) (hK : X.K = K) (hc : X.calm = true) : CallR X (.builtin "sum") (fun xs H Q => ∃ (a : Addr) (ns : List Int), xs = [.ref a] ∧ SqL K H a (ns.map V.int) ∧ Q (.int ns.sum) H) := by
  subst hK
  intro pins s σ H xs us Q I r h
  obtain ⟨a, ns, rfl, hq, q⟩ := h
  obtain ⟨u, rfl, r1⟩ := vals1 r
  cases (show u = Value.ref a from r1)
  obtain ⟨its, rv, pl, hz⟩ := I.list hq
  have hi := ints_are rv
  obtain ⟨zs, ez⟩ := hi.allInts.items
  refine sum_intListG (I.ok.hd hc) (by rw [← ez]; exact pl.isList) fun h' tk t' hk => ⟨.int ns.sum, H, I.kept hk, ⟨t', ?_⟩, q⟩
  have e1 := hi.numsOf
  rw [show its = its.toArray.toList from rfl, ez, nums_intItems] at e1
  rw [preSum_eq, List.take_of_length_le (by simp), e1]
theorem Inv.sameAt {h' : Heap} {m : Str → Option Value} {tk : Nat} (I : Inv X pins σ H s) (hn : s.heap.Ns X.env.locals m) (F : Fr X.base X.env.locals h' m) (N : News X.base X.env.locals h' (allN X.base s.heap X.env.locals)) : Inv X pins σ H { s with heap := h', toks := tk } := by
  have keep : ∀ b o, s.heap.get? b = some o → b ≠ X.env.locals → h'.get? b = some o := fun b o e hb => by
    cases q : X.base.get? b with
    | some o2 =>
      have e2 := I.bk b o2 q
      rw [e] at e2
      cases e2
      exact F.keep b o q
    | none => exact (N _ (allN_mem e hb q)).1
  have nL : ∀ b u, H b = some u → b ≠ X.env.locals := fun b u e z => by rw [z, I.free] at e; cases e
  refine I.step (g' := s.gens) (d' := s.drawn) (ch := []) (fun _ z => nomatch z) (fun b o hb _ _ e _ => keep b o e hb) (fun b o hb _ _ e _ => ⟨o.slots, keep b o e hb⟩) (fun b o _ e n => n) (fun b o _ e => ?_)
    (fun b xs e => e) (fun b o u e => e) (fun b ps e => ⟨#[], by rw [e]; simp⟩) (fun m2 hm2 => ?_) (fun b u e => ?_) I.bare
  · by_cases hb : b = X.env.locals
    · obtain ⟨oL, _, _, hoL, _⟩ := F.ns
      exact ⟨oL, by rw [hb]; exact hoL⟩
    · exact ⟨o, keep b o e hb⟩
  · have em : m2 = m := by
      obtain ⟨o1, es1, ep1, a1, a2, _, a4⟩ := hm2
      obtain ⟨o2, es2, ep2, b1, b2, _, b4⟩ := hn
      rw [a1] at b1
      cases b1
      rw [a2] at b2
      cases b2
      funext x
      rw [← a4, ← b4]
    rw [em]; exact F.ns
  · refine (I.hok b u e).stay (fun c v hc q => keep c v q ?_) (fun c q => q) fun c xs q => q
    rcases hc with rfl | hc
    · exact nL c _ e
    · exact nL c _ hc
def viewO (p d : Addr) : HO := .ext fun h => h.IsValuesView p d
def rValues : V → List V → Hp → VK → Prop := fun x vs H Q => ∃ a kvs, x = .ref a ∧ vs = [] ∧ H a = some (.dK kvs) ∧ ∀ p, H p = none → Q (.ref p) (upd H p (viewO p a))
theorem mt_values : MtR X "dict.values" rValues := by
  intro pins s σ H x vs v us Q I rx rv h
  obtain ⟨a, kvs, rfl, rfl, hH, q⟩ := h
  cases rx
  have hus := rv.zero
  subst hus
  obtain ⟨z, hd, ws, rel, dd⟩ := dk_of I.hok hH
  refine call_meetsIn PySem.F.slot_dict_values dd.typeIs PySem.F.entry_dict_values (PySem.F.args_dict_values_1 _) (meets_dict_values (mixKind X.prog X.w) a hd) ⟨⟨ws, dd⟩, ?_⟩
  refine ⟨.ref s.heap.objs.size, _, I.laid (t' := s.toks) (a := s.heap.objs.size) (o := viewO s.heap.objs.size a) (fun b o e => Heap.get?_push_of_some _ e) (Nat.le_refl _) ⟨⟨_, Heap.get?_push_size _ rfl, rfl, rfl⟩, ⟨_, Heap.get?_push_size _ rfl⟩, fun h1 h2 ⟨o, e1, e2⟩ k => ⟨o, k o e1, e2⟩⟩, rfl, q _ (I.hok.fresh (Nat.le_refl _))⟩
theorem KV.nums : ∀ {kvs : List (Key × V)} {vs : List (Key × Value)} {ns : List Int}, KV kvs vs → kvs.map (·.2) = ns.map V.int → ∀ (i : Nat) (k : Key) (v : Value), vs[i]? = some (k, v) → ∃ t, v = .int (ns.getD i 0) t := by
  intro kvs vs ns r
  unfold KV at r
  induction r generalizing ns with
  | nil => intro _ i k v e; simp at e
  | @cons p q ps qs h t ih =>
    intro e i k v ei
    cases ns with
    | nil => cases e
    | cons n ns =>
      rw [List.map_cons, List.map_cons] at e
      injection e with e1 e2
      cases i with
      | zero =>
        have ei : q = (k, v) := by simpa using ei
        have h2 := h.2
        rw [e1, ei] at h2
        obtain ⟨t, ht⟩ := h2
        exact ⟨t, ht⟩
      | succ i =>
        have := ih e2 i k v (by simpa using ei)
        simpa using this
theorem preSum_get (ns : List Int) : ∀ (n : Nat), n ≤ ns.length → preSum (fun i => ns.getD i 0) n = (ns.take n).sum
  | 0, _ => by simp [preSum]
  | n + 1, h => by
    show preSum (fun i => ns.getD i 0) n + ns.getD n 0 = _
    rw [preSum_get ns n (by omega), List.take_succ, List.sum_append]
    simp [show n < ns.length by omega]
theorem call_sumV (hc : X.calm = true) : CallR X (.builtin "sum") (fun xs H Q => ∃ (p a : Addr) (kvs : List (Key × V)) (ns : List Int), xs = [.ref p] ∧ H p = some (viewO p a) ∧ H a = some (.dK kvs) ∧ kvs.map (·.2) = ns.map V.int ∧ Q (.int ns.sum) H) := by
  intro pins s σ H xs us Q I r h
  obtain ⟨p, a, kvs, ns, rfl, hp, ha, hk, q⟩ := h
  obtain ⟨u, rfl, r1⟩ := vals1 r
  cases (show u = Value.ref p from r1)
  obtain ⟨z, hd, ws, rel, dd⟩ := dk_of I.hok ha
  have vw : s.heap.IsValuesView p a := (show ObjOk X.prog X.w H s.heap p (viewO p a) from I.hok p _ hp).1
  obtain ⟨m, hn, _⟩ := id I.loc
  have F0 : Fr X.base X.env.locals s.heap m := ⟨hn, I.bk, Nat.le_trans I.ok.bsz I.ok.above⟩
  obtain ⟨ep, at_⟩ := dd.dictAt
  have hl : ws.length = ns.length := by rw [← rel.length, ← List.length_map (·.2), hk, List.length_map]
  refine kdu_sum (kdl_values (knd := mixKind X.prog X.w) (kvs := ws) (ep := ep)) (I.ok.hd hc) F0 (allN_news (base := X.base)) ⟨vw, at_⟩ (fun i => ns.getD i 0) (fun i v ⟨k, e⟩ => rel.nums hk i k v e) fun h' tk t' F' N' => ?_
  refine ⟨.int ns.sum, H, I.sameAt hn F' N', ⟨t', ?_⟩, q⟩
  rw [preSum_get ns _ (by omega), List.take_of_length_le (by omega)]
end
section
variable {He : Hp} {K : PySem.W.Frag} {ι : Type} {Y : ι → Cx} {e : Expr} {pos p : Pos}
def xSum (t : Dq) : De := fun env P => t env fun xs => ∃ ns : List Int, xs = ns.map PyData.int ∧ P (.int ns.sum)
theorem de_sum {t : Dq} (h : DL He K Y e t) (hm : ∀ i, (Y i).mg "sum" = none) (hc : autoParam (∀ i, (Y i).calm = true) u4._auto_1) (hg : autoParam (∀ i, Gl (Y i) "sum") u4._auto_1) (hK : autoParam (∀ i, (Y i).K = K) u4._auto_1) (hs : autoParam (∀ i, starEach [e] (Y i).env = [(false, eval e (Y i).env)]) u4._auto_1) :
    DE He K Y (.Call (.Name "sum" p) [e] [] pos) (xSum t) := by
  obtain ⟨te, h1, h2⟩ := h
  refine ⟨_, fun i => pe_callB (call_sumL K (hK i) (hc i)) (hg i) (hm i) bt_sum (pa_cons (h1 i) pa_nil (hs i)) (by decide) (by decide) (hs i) rfl, fun P Q F p k => h2 _ _ F p fun ds a ys R1 H1 ⟨ns, hd, pd⟩ e1 ha r1 => ?_⟩
  subst hd
  exact ⟨a, ns, rfl, by rw [← r1.ints_inv]; exact SqL.of ha, k _ _ R1 H1 pd e1 (.int _)⟩
def xSumV (i : Nat) : De := fun env P => ∃ kvs, env[i]? = some (.dk kvs) ∧ ∃ ns : List Int, kvs.map (·.2) = ns.map PyData.int ∧ P (.int ns.sum)
theorem KvR.ints {R : Hp} : ∀ {l : List (Key × V)} {m : List (Key × PyData)} {ns : List Int}, KvR K R l m → m.map (·.2) = ns.map PyData.int → l.map (·.2) = ns.map V.int := by
  intro l m ns h
  induction h generalizing ns with
  | nil => intro e; cases ns with
    | nil => rfl
    | cons _ _ => cases e
  | @cons p q ps qs h t ih =>
    intro e
    cases ns with
    | nil => cases e
    | cons n ns =>
      rw [List.map_cons, List.map_cons] at e ⊢
      injection e with e1 e2
      rw [ih e2]
      have := h.2
      rw [e1] at this
      rw [this.int_inv]
theorem de_sumV (i : Nat) {x : Str} {p2 apos cpos : Pos} (hm : ∀ j, (Y j).mg "sum" = none) (hv : autoParam (∀ j, PE (Y j) (.Name x p2) (tVar i)) u9._auto_1) (hc : autoParam (∀ i, (Y i).calm = true) u4._auto_1) (hg : autoParam (∀ i, Gl (Y i) "sum") u4._auto_1) (hK : autoParam (∀ i, (Y i).K = K) u4._auto_1)
    (hbase : autoParam (∀ m, attributeBase (.Name x p2) "values" (Y m).env (eval (.Name x p2) (Y m).env) = eval (.Name x p2) (Y m).env) u4._auto_1) (hline : autoParam ((apos.endLine == cpos.line) = true) u5._auto_1)
    (hs : autoParam (∀ i, starEach [.Call (.Attribute (.Name x p2) "values" apos) [] [] cpos] (Y i).env = [(false, eval (.Call (.Attribute (.Name x p2) "values" apos) [] [] cpos) (Y i).env)]) u4._auto_1) :
    DE He K Y (.Call (.Name "sum" p) [.Call (.Attribute (.Name x p2) "values" apos) [] [] cpos] [] pos) (xSumV i) := by
  refine ⟨_, fun j => pe_callB (call_sumV (hc j)) (hg j) (hm j) bt_sum (pa_cons (pe_bm0K K (hK j) PySem.F.plainAttrs_dict PySem.F.slot_dict_values PySem.F.type_dict_values mt_values (hv j) (hbase j) hline) pa_nil (hs j)) (by decide) (by decide) (hs j) rfl, fun P Q F p k => ?_⟩
  obtain ⟨kvs, hx, ns, hk, p⟩ := p
  obtain ⟨a, ys, h1, h2, h3, h4, h5⟩ := F.dkAt hx
  refine ⟨_, h1, .inr (.inr (.inl ⟨rfl, .inl ⟨ys, h2⟩⟩)), a, ys, rfl, rfl, h2, fun q hq => ⟨q, a, ys, ns, rfl, upd_same, ?_, h5.ints hk, ?_⟩⟩
  · rw [upd_ne (ne_of_none h2 hq)]; exact h2
  · exact k _ _ _ _ p (Ext.new F.wd hq) (.int _)
end
section
variable {X : Cx}
theorem ints_of : ∀ {vs : List Value} {ks : List Int}, vs.length = ks.length → (∀ (j : Nat) (v : Value), vs[j]? = some v → ∃ t, v = .int (ks.getD j 0) t) → IntsAre vs ks
  | [], [], _, _ => .nil
  | [], _ :: _, h, _ => by cases h
  | _ :: _, [], h, _ => by cases h
  | v :: vs, k :: ks, h, q => by
    obtain ⟨t, e⟩ := q 0 v rfl
    rw [e]
    exact .cons _ _ (ints_of (by simpa using h) fun j u e => by simpa using q (j + 1) u (by simpa using e))
theorem ints_vals : ∀ {vs : List Value} {ns : List Int}, IntsAre vs ns → Vals (ns.map V.int) vs
  | _, _, .nil => .nil
  | _, _, .cons _ t h => .cons ⟨t, rfl⟩ (ints_vals h)
theorem KV.keyAt : ∀ {kvs : List (Key × V)} {vs : List (Key × Value)} {ks : List Int}, KV kvs vs → kvs.map (·.1) = ks.map Sum.inl → ∀ (i : Nat) (k : Key) (v : Value), vs[i]? = some (k, v) → k = .inl (ks.getD i 0) := by
  intro kvs vs ns r
  unfold KV at r
  induction r generalizing ns with
  | nil => intro _ i k v e; simp at e
  | @cons p q ps qs h t ih =>
    intro e i k v ei
    cases ns with
    | nil => cases e
    | cons n ns =>
      rw [List.map_cons, List.map_cons] at e
      injection e with e1 e2
      cases i with
      | zero =>
        have ei : q = (k, v) := by simpa using ei
        have h1 := h.1
        rw [e1, ei] at h1
        exact h1.symm
      | succ i =>
        have := ih e2 i k v (by simpa using ei)
        simpa using this
theorem call_sortD (hc : X.calm = true) : CallR X (.builtin "sorted") (fun xs H Q => ∃ (a : Addr) (kvs : List (Key × V)) (ks : List Int), xs = [.ref a] ∧ H a = some (.dK kvs) ∧ kvs.map (·.1) = ks.map Sum.inl ∧ ks.length < 64 ∧
    ∀ (l : Addr) (ns : List Int), H l = none → ns.Perm ks → ns.Pairwise (· ≤ ·) → Q (.ref l) (upd H l (.lst (ns.map V.int)))) := by
  intro pins s σ H xs us Q I r h
  obtain ⟨a, kvs, ks, rfl, ha, hk, h64, q⟩ := h
  obtain ⟨u, rfl, r1⟩ := vals1 r
  cases (show u = Value.ref a from r1)
  obtain ⟨z, hd, ws, rel, dd⟩ := dk_of I.hok ha
  obtain ⟨m, hn, _⟩ := id I.loc
  have F0 : Fr X.base X.env.locals s.heap m := ⟨hn, I.bk, Nat.le_trans I.ok.bsz I.ok.above⟩
  obtain ⟨ep, at_⟩ := dd.dictAt
  have hl : ws.length = ks.length := by rw [← rel.length, ← List.length_map (·.1), hk, List.length_map]
  refine kdu_sorted (kdl_dict (knd := mixKind X.prog X.w) (kvs := ws) (ep := ep) hd) (I.ok.hd hc) F0 (allN_news (base := X.base)) at_ (by rw [hl, sizeLine_eq]; omega) fun D h' tk vs F' N' hD hl' hv => ?_
  have hi : IntsAre vs ks := ints_of (by rw [hl', hl]) fun j v e => by
    obtain ⟨k, x, e2, hkv⟩ := hv j v e
    rw [rel.keyAt hk j k x e2] at hkv
    exact Value.isInt_shape hkv
  refine ksk_lsort (news' := fun o => (D, o) :: allN X.base s.heap X.env.locals) F' N' (fun o => .head fun q hq z => ?_) rfl hi h64 fun vs' ns' c h2 F2 N2 i2 l2 p2 o2 _ => ?_
  · exact absurd (hD q hq) (by rw [z]; exact Nat.lt_irrefl _)
  · have J := I.newAt hn F2 N2 hD (ints_vals i2) (by rw [List.length_map, l2, sizeLine_eq]; omega)
    exact ⟨.ref D, _, J.2.tok tk, rfl, q D ns' J.1 p2 o2⟩
end
section
variable {He : Hp} {K : PySem.W.Frag} {ι : Type} {Y : ι → Cx} {e : Expr} {pos p : Pos}
theorem KvR.keyEq {R : Hp} : ∀ {l : List (Key × V)} {m : List (Key × PyData)}, KvR K R l m → l.map (·.1) = m.map (·.1) := by
  intro l m h
  induction h with
  | nil => rfl
  | cons h t ih => rw [List.map_cons, List.map_cons, ih, h.1]
def xSortD (i : Nat) : Dq := fun env P => ∃ kvs, env[i]? = some (.dk kvs) ∧ ∃ ks : List Int, kvs.map (·.1) = ks.map Sum.inl ∧ ks.length < 64 ∧ ∀ ns : List Int, ns.Perm ks → ns.Pairwise (· ≤ ·) → P (ns.map PyData.int)
theorem do_sortD (i : Nat) {x : Str} {p2 : Pos} (hm : ∀ j, (Y j).mg "sorted" = none) (hv : autoParam (∀ j, PE (Y j) (.Name x p2) (tVar i)) u9._auto_1) (hc : autoParam (∀ i, (Y i).calm = true) u4._auto_1) (hg : autoParam (∀ i, Gl (Y i) "sorted") u4._auto_1)
    (hs : autoParam (∀ i, starEach [.Name x p2] (Y i).env = [(false, eval (.Name x p2) (Y i).env)]) u4._auto_1) : DO He K Y (.Call (.Name "sorted" p) [.Name x p2] [] pos) (xSortD i) := by
  refine ⟨_, fun j => pe_callB (call_sortD (hc j)) (hg j) (hm j) bt_sorted (pa_cons (hv j) pa_nil (hs j)) (by decide) (by decide) (hs j) rfl, fun P Q F p k => ?_⟩
  obtain ⟨kvs, hx, ks, hk, h64, p⟩ := p
  obtain ⟨a, ys, h1, h2, h3, h4, h5⟩ := F.dkAt hx
  refine ⟨_, h1, a, ys, ks, rfl, h2, by rw [h5.keyEq]; exact hk, h64, fun l ns hl hp ho => ?_⟩
  exact k _ l _ _ _ (p ns hp ho) (Ext.newO F.wd hl trivial) hl upd_same (F.wd.rh.free hl) (RpAll.ints ns)
end
end L2
set_option Elab.async false
set_option linter.all false
set_option maxRecDepth 100000
namespace L2
open PySem PySem.Spec PyProof.Rows
section
variable {He : Hp} {K : PySem.W.Frag} {H0 R H : Hp} {σ : St} {env : List Dt}
theorem Fra.ooAt {i : Nat} {xss : List (List PyData)} (F : Fra He K H0 R H σ env) (h : env[i]? = some (.oo xss)) : ∃ a ys, σ[i]? = some (some (.ref a)) ∧ H a = some (.lst ys) ∧ R a = none ∧ H0 a = none ∧ OwnR K H0 R H ys xss ∧ ys.Nodup ∧ V.ref a ∉ ys := by
  obtain ⟨v, hs, a, ys, rfl, h2⟩ := F.get h (by intro z; cases z)
  exact ⟨a, ys, hs, h2⟩
theorem Fra.toOO {i : Nat} (F : Fra He K H0 R H σ env) (h : env[i]? = some (.o [])) : Fra He K H0 R H σ (env.set i (.oo [])) := by
  obtain ⟨a, ys, h1, h2, h3, h4, h5⟩ := F.lstAt h
  cases h5
  have hj : (σ[i]?).join = some (.ref a) := by rw [h1]; rfl
  refine F.give h (Same.refl R) (fun b o e => .inl e) (by rw [hj]; exact ⟨a, [], rfl, h2, h3, h4, .nil, .nil, by simp⟩) fun b z => ?_
  rw [hj] at z ⊢
  rcases z with z | ⟨a', ys', e, e2, m⟩
  · exact z
  · cases e; rw [h2] at e2; cases e2; cases m
theorem OwnR.snoc {ys : List V} {xss : List (List PyData)} {y : V} {xs : List PyData} (h : OwnR K H0 R H ys xss) (hy : ∃ b zs, y = .ref b ∧ H b = some (.lst zs) ∧ R b = none ∧ H0 b = none ∧ RpAll K R zs xs) : OwnR K H0 R H (ys ++ [y]) (xss ++ [xs]) := by
  induction h with
  | nil => exact .cons hy .nil
  | cons h t ih => exact .cons h ih
theorem Fra.appOO {i j : Nat} {xss : List (List PyData)} {xs : List PyData} (F : Fra He K H0 R H σ env) (h : env[i]? = some (.oo xss)) (hj : env[j]? = some (.o xs)) : ∃ a ys b, σ[i]? = some (some (.ref a)) ∧ σ[j]? = some (some (.ref b)) ∧ H a = some (.lst ys) ∧ ys.length = xss.length ∧
    Fra He K H0 R (upd H a (.lst (ys ++ [.ref b]))) σ ((env.set j .un).set i (.oo (xss ++ [xs]))) := by
  obtain ⟨a, ys, h1, h2, h3, h4, h5, h6, h7⟩ := F.ooAt h
  obtain ⟨b, zs, k1, k2, k3, k4, k5⟩ := F.lstAt hj
  have ji : (σ[i]?).join = some (.ref a) := by rw [h1]; rfl
  have jj : (σ[j]?).join = some (.ref b) := by rw [k1]; rfl
  have ne : i ≠ j := fun z => by subst z; rw [h] at hj; cases hj
  have hb : Dt.has H (.o xs) (σ[j]?).join b := by rw [jj]; exact rfl
  have nab : a ≠ b := fun z => ne (F.apart i j _ _ b h hj (by rw [ji, z]; exact .inl rfl) hb)
  have nby : V.ref b ∉ ys := fun m => ne (F.apart i j _ _ b h hj (by rw [ji]; exact .inr ⟨a, ys, rfl, h2, m⟩) hb)
  have gx : ∀ k x, (env.set j .un)[k]? = some x → x = Dt.un ∨ (k ≠ j ∧ env[k]? = some x) := fun k x e => by
    rw [List.getElem?_set] at e
    split at e
    · split at e
      · cases e; exact .inl rfl
      · cases e
    · rename_i z; exact .inr ⟨fun q => z q.symm, e⟩
  refine ⟨a, ys, b, h1, k1, h2, Paired.length h5, (F.drop j).mut' (d := .oo xss) (by rw [List.getElem?_set_ne (fun z => ne z.symm)]; exact h) (by rw [ji]; exact .inl rfl) trivial ?_ fun c z => ?_⟩
  · rw [ji]
    refine ⟨a, _, rfl, upd_same, h3, h4, (h5.mut h7).snoc ⟨b, zs, rfl, by rw [upd_ne (fun z => nab z.symm)]; exact k2, k3, k4, k5⟩, ?_, ?_⟩
    · rw [List.nodup_append]
      exact ⟨h6, by simp, fun x hx y hy z => by rw [List.mem_singleton.mp hy] at z; rw [z] at hx; exact nby hx⟩
    · intro m
      rcases List.mem_append.mp m with m | m
      · exact h7 m
      · have := List.mem_singleton.mp m; cases this; exact nab rfl
  · rw [ji] at z ⊢
    rcases z with z | ⟨a', ys', e, e2, m⟩
    · exact .inl (.inl z)
    · cases e
      rw [upd_same] at e2
      cases e2
      rcases List.mem_append.mp m with m | m
      · exact .inl (.inr ⟨a, ys, rfl, h2, m⟩)
      · have := List.mem_singleton.mp m; cases this
        refine .inr fun k dk hk ek hh => ?_
        rcases gx k dk ek with rfl | ⟨q, ek⟩
        · cases hh
        · exact q (F.apart j k _ dk _ hj ek hb hh).symm
end
section
variable {He : Hp} {K : PySem.W.Frag} {ι : Type} {Y : ι → Cx} {e a b c : Expr} {es : List Expr} {pos : Pos}
def sToOO (i : Nat) (t : Ds) : Ds := fun D env => env[i]? = some (.o []) ∧ t D (env.set i (.oo []))
theorem DSs.toOO {sts : List Stmt} {t : Ds} (i : Nat) (h : DSs He K Y sts t) : DSs He K Y sts (sToOO i t) := by
  obtain ⟨a, a1, a2⟩ := h
  exact ⟨a, a1, fun D E F s c ⟨e, p⟩ => a2 D E (F.toOO e) s c p⟩
def sAppOO (i j : Nat) : Ds := fun D env => ∃ xss xs, env[i]? = some (.oo xss) ∧ env[j]? = some (.o xs) ∧ xss.length < 100000 ∧ D.nx ((env.set j .un).set i (.oo (xss ++ [xs])))
theorem ds_appOO (i j : Nat) {x y : Str} {p2 p3 apos cpos : Pos} (hv : autoParam (∀ j, PE (Y j) (.Name x p2) (tVar i)) u9._auto_1) (hw : autoParam (∀ m, PE (Y m) (.Name y p3) (tVar j)) u9._auto_1) (hK : autoParam (∀ i, (Y i).K = K) u4._auto_1)
    (hbase : autoParam (∀ j, attributeBase (.Name x p2) "append" (Y j).env (eval (.Name x p2) (Y j).env) = eval (.Name x p2) (Y j).env) u4._auto_1)
    (hfew : autoParam (∀ j, ((backTo cpos (starEach [.Name y p3] (Y j).env)).all (fun x => !x.1) && (backToKw cpos (keywordEach [] (Y j).env)).all (fun x => x.1.isSome)
      && decide (([.Name y p3] : List Expr).length + ([] : List Keyword).length + (if ([] : List Keyword).isEmpty then 0 else 1) < 30)) = true) u4._auto_1)
    (hline : autoParam ((apos.endLine == cpos.line) = true) u5._auto_1) (hs : autoParam (∀ j, starEach [.Name y p3] (Y j).env = (false, eval (.Name y p3) (Y j).env) :: starEach [] (Y j).env) u4._auto_1) (hplain : autoParam (∀ j, (backTo cpos (starEach [] (Y j).env)).any (·.1) = false) u4._auto_1)
    (hsw : autoParam (∀ j, swapsWith (.Call (.Attribute (.Name x p2) "append" apos) [.Name y p3] [] cpos) none pos.line (Y j).env = pure false) u4._auto_1) :
    DS He K Y (.Expr (.Call (.Attribute (.Name x p2) "append" apos) [.Name y p3] [] cpos) pos) (sAppOO i j) := by
  refine ⟨_, fun j => ps_expr (pe_bmK K (hK j) PySem.F.plainAttrs_list PySem.F.slot_list_append PySem.F.type_list_append mt_append (hv j) (pa_cons (hw j) pa_nil (hs j)) (hbase j) (hfew j) hline (hs j) (hplain j)) (hsw j), fun D E F s c p => ?_⟩
  obtain ⟨xss, xs, ex, ey, hz, q⟩ := p
  obtain ⟨a, ys, b, h1, k1, h2, hl, F'⟩ := F.appOO ex ey
  exact ⟨_, h1, .inl ⟨rfl, _, SqL.of h2⟩, _, k1, a, ys, _, rfl, rfl, h2, szlt' (by omega), c.nx _ _ _ _ q s F'⟩
end
section
variable {He : Hp} {K : PySem.W.Frag} {ι : Type} {Y : ι → Cx} {e : Expr} {es : List Expr} {pos p : Pos} {prog : Program} {w : World} {mg : Str → Option Value} {base : Heap} {x : Str} {k : Nat} {ps : List Str} {P : List PyData → (Dt → Prop) → Prop} {t : Dq}
theorem SlotR.old {H0 H1 R H : Hp} {v : Option V} {d : Dt} (h : SlotR K H1 R H v d) (s : Same H0 H1) : SlotR K H0 R H v d := by
  cases d with
  | un => cases v <;> trivial
  | d y => cases v <;> exact h
  | o xs => cases v with
    | none => exact h
    | some v => obtain ⟨a, ys, h1, h2, h3, h4, h5⟩ := h; exact ⟨a, ys, h1, h2, h3, s.free h4, h5⟩
  | dk xs => cases v with
    | none => exact h
    | some v => obtain ⟨a, ys, h1, h2, h3, h4, h5⟩ := h; exact ⟨a, ys, h1, h2, h3, s.free h4, h5⟩
  | dt xs => cases v with
    | none => exact h
    | some v => obtain ⟨a, ys, h1, h2, h3, h4, h5⟩ := h; exact ⟨a, ys, h1, h2, h3, s.free h4, h5⟩
  | oo xs => cases v with
    | none => exact h
    | some v => obtain ⟨a, ys, h1, h2, h3, h4, h5, h6⟩ := h; exact ⟨a, ys, h1, h2, h3, s.free h4, Paired.mapP h5 fun _ _ ⟨b, zs, k1, k2, k3, k4, k5⟩ => ⟨b, zs, k1, k2, k3, s.free k4, k5⟩, h6⟩
end
end L2
set_option Elab.async false
set_option linter.all false
set_option maxRecDepth 100000
namespace L2
open PySem PySem.Spec PyProof.Rows PySem.W
def cxLam (P : Program) (w : World) (K : PySem.W.Frag) (mg : Str → Option Value) (base : Heap) (N : List Str) (qual : Str) (scope : Scope) (f : Addr) (cd : Value) (cl : List (Str × Addr)) (A : Around) (outer : List Env) (s : Shared) (H : Hp) : Cx where
  prog := P
  w := w
  K := K
  mg := mg
  base := base
  A := A.deeper (envX qual scope s.heap.objs.size f cd cl)
  N := N
  s₀ := s
  H₀ := H
  env := envX qual scope s.heap.objs.size f cd cl
  outer := outer
  stack := envX qual scope s.heap.objs.size f cd cl :: outer
  ex := []
  fn := fun _ => false
  calm := true
  pn := []
  xe := fun _ _ => False
structure LamSc (x y : Str) (scope : Scope) : Prop where
  kind : scope.kind = .function
  co : scope.isCoroutine = false
  gen : scope.isGenerator = false
  nocell : ∀ z ∈ scope.names, z.2 ≠ .cell
  px : scope.names.lookup x = some .local
  fy : scope.names.lookup y = some .free
  only : ∀ z, scope.names.lookup z = some .free → z = y
section
variable {P : Program} {w : World} {K : PySem.W.Frag} {mg : Str → Option Value} {base : Heap} {nm qual x y : Str} {params : Arguments} {body : Expr} {scope : Scope} {f cy : Addr} {pm cd ctv : Value} {A : Around} {outer : List Env} {s : Shared} {H : Hp} {k : Nat} {u uy : Value} {v vy : V} {te : TE} {Q : VK} {E : XK}
theorem inv_lam {h1 : Heap} {tk : Nat} (S : LamSc x y scope) (hd : A.handled = none) (e0 : Env0 P w K mg base A outer s H) (rv : RelV v u) (hcy : s.heap.IsCell cy (some uy)) (ry : RelV vy uy) (hHc : H cy = none)
    (hns : h1.Ns s.heap.objs.size fun z => ([(x, u)] : List (Str × Value)).reverse.lookup z) (hk : ∀ b o, s.heap.get? b = some o → h1.get? b = some o) :
    Inv (cxLam P w K mg base [x, y] qual scope f cd [(y, cy)] A outer s H) [] [some v, some vy] H { s with heap := h1, toks := tk } := by
  have noA : ∀ b : Addr, b ∉ (cxLam P w K mg base [x, y] qual scope f cd [(y, cy)] A outer s H).ex := fun b z => by cases z
  have one : ∀ z c, (cxLam P w K mg base [x, y] qual scope f cd [(y, cy)] A outer s H).env.cells.lookup z = some c → z = y ∧ c = cy := fun z c e => by
    have e : ([(y, cy)] : List (Str × Addr)).lookup z = some c := e
    rw [List.lookup_cons] at e
    cases hb : z == y with
    | true => rw [hb] at e; exact ⟨beq_iff_eq.mp hb, (Option.some.inj e).symm⟩
    | false => rw [hb] at e; cases e
  have ly : (cxLam P w K mg base [x, y] qual scope f cd [(y, cy)] A outer s H).env.cells.lookup y = some cy := by
    show ([(y, cy)] : List (Str × Addr)).lookup y = some cy
    rw [List.lookup_cons, beq_self_eq_true]
  refine ⟨⟨e0.mod, S.kind, rfl, rfl, Nat.le_refl _, fun a b c h1 h2 => ?_, fun a ha => ?_, fun a c hf _ => (by cases hf), fun _ => hd, Around.frames_deeper e0.frames, .inr ⟨rfl, rfl⟩, fun b z => absurd z (noA b), e0.bs, e0.bsz, fun b _ _ => noA b, fun b z => absurd z (noA b), e0.funs, e0.frf⟩,
    rfl, e0.bare, Un.kept hk, ⟨_, hns, fun i z a h1 h2 h3 => ?_⟩, fun z c h => ?_, e0.hok.fresh (Nat.le_refl _), fun z c h => ?_, fun p hp => (by cases hp), e0.hok.kept hk, rfl⟩
  · rw [(one a c h1).1, (one b c h2).1]
  · have ha : scope.names.lookup a = some .cell ∨ scope.names.lookup a = some .free := ha
    rcases ha with ha | ha
    · exact absurd rfl (S.nocell _ (PySem.mem_of_lookup ha))
    · rw [S.only a ha]; exact ⟨cy, ly⟩
  · match i with
    | 0 =>
      cases (show some x = some z from h1)
      cases (show some (some v) = some (some a) from h2)
      refine ⟨u, rv, .inl ⟨S.px, ?_⟩⟩
      show ([(x, u)] : List (Str × Value)).lookup x = some u
      rw [List.lookup_cons, beq_self_eq_true]
    | 1 =>
      cases (show some y = some z from h1)
      cases (show some (some vy) = some (some a) from h2)
      exact ⟨uy, ry, .inr ⟨.inr S.fy, cy, ly, hcy.keeps hk⟩⟩
    | i + 2 => cases (show (none : Option Str) = some z from h1)
  · rw [(one z c h).2]; exact ⟨_, hcy.keeps hk⟩
  · rw [(one z c h).2]; exact hHc
theorem lam_run (S : LamSc x y scope) (hr : Room (k + 1) A) (e0 : Env0 P w K mg base A outer s H) (ho : s.heap.get? f = some { cls := .type "function", data := .func (kla_fn nm qual params body scope [(y, cy)] pm cd ctv) })
    (hcd : s.heap.CodeRec cd qual) (hbind : bindArgs (kla_fn nm qual params body scope [(y, cy)] pm cd ctv) ⟨[u], []⟩ = pure [(x, u)]) (rv : RelV v u) (hcy : s.heap.IsCell cy (some uy)) (ry : RelV vy uy) (hHc : H cy = none)
    (hb : PE (cxLam P w K mg base [x, y] qual scope f cd [(y, cy)] A outer s H) body te) (q : te [some v, some vy] H Q) : codeAny (model P w) A (.call (.ref f) ⟨[u], []⟩) (CR CX0 outer P w H s Q E) s := by
  have lim : s.heap.NoLimit := e0.mod.nolimit.keeps fun b o e => (e0.bs b o e).1
  refine kla_callFunE hr.depth ho rfl S.co S.gen rfl hcd ?_
  rw [hbind]
  refine wpAny_pure (wpAny_newFunctionEnv S.nocell (fun z hz => ?_) (fun h1 hns hsb => ?_) S.kind)
  · rw [List.mem_singleton.mp hz]; exact S.px
  have hk : ∀ b o, s.heap.get? b = some o → h1.get? b = some o := fun b o e => hsb.extBut b o (Nat.ne_of_lt (Heap.lt_size e)) (Heap.get?_push_of_some _ e)
  refine ⟨lim.keeps hk, ?_⟩
  have I := inv_lam (f := f) (cd := cd) (qual := qual) (tk := s.toks + 1) S hr.hd e0 rv hcy ry hHc hns hk
  show codeAny (model P w) A (.expr body (envX qual scope s.heap.objs.size f cd [(y, cy)])) _ _
  refine kla_codeExpr (wpAny_mono (hb [] _ _ H Q I q) (fun r s' hq => ?_) fun _ _ z => z.elim)
  obtain ⟨v', H', J, rv', q'⟩ := hq
  exact ⟨v', H', J.os, J.bare, J.base, J.hok, rv', q'⟩
end
def cRec (c : Addr) (q : Str) : HO := .ext fun h => h.CodeRec (.ref c) q
def TblOk (lp : Pos) (q : Str) (H : Hp) (ps : Array Value) : Prop := ps = #[] ∨ ∃ c', ps = #[rawInt lp.line, rawInt lp.col, .ref c'] ∧ H c' = some (cRec c' q)
def BMod (h : Heap) (mg : Str → Option Value) : Prop := ∃ bm ob, mg "__builtins__" = some (.ref bm) ∧ bm ≠ builtinsNs ∧ h.get? bm = some ob ∧ ob.cls = .type "module" ∧ ob.dict = some builtinsNs ∧ ob.data = .plain
def LStep (lp : Pos) (q : Str) (P : Addr) (H H' : Hp) : Prop := (H' = H ∧ ∃ ps, H P = some (.tbl ps) ∧ TblOk lp q H ps) ∨ ∃ c', H c' = none ∧ (∃ ps, H P = some (.tbl ps)) ∧ H' = upd (upd H P (.tbl #[rawInt lp.line, rawInt lp.col, .ref c'])) c' (cRec c' q)
theorem codeRec_keep {h h' : Heap} {c : Addr} {q : Str} (x : h.CodeRec (.ref c) q) (k : ∀ o, h.get? c = some o → h'.get? c = some o) : h'.CodeRec (.ref c) q := by
  obtain ⟨c2, oc, vs, t, e, h1, h2⟩ := x
  cases e
  exact ⟨c, oc, vs, t, rfl, k _ h1, h2⟩
section
variable {X : Cx} {pins : List (Addr × Obj)} {σ : St} {H : Hp} {s : Shared} {params : Arguments} {body : Expr} {scope : Scope} {lp : Pos} {q y : Str} {cy c P : Addr} {ps : Array Value} {Q : Value → Shared → Prop} {E : Value → Shared → Prop}
theorem lam_make (I : Inv X pins σ H s) (hdef : defaultsOf params X.env = ([], [])) (hcl : closureFor scope X.env = pure [(y, cy)]) (hcode : X.env.code = .ref c) (C : CodeHd X.base c P) (bm : BMod X.base X.mg) (hP : H P = some (.tbl ps)) (hT : TblOk lp q H ps) (hq : X.env.qual ++ "<lambda>" = q)
    (h : ∀ f c' pm ctv H' s', Inv X pins σ H' s' → s.heap.objs.size ≤ f → s'.heap.get? f = some { cls := .type "function", data := .func (kla_fn "<lambda>" q params body scope [(y, cy)] pm (.ref c') ctv) } → H' f = none → H' c' = some (cRec c' q) → LStep lp q P H H' →
      (∀ b o, s.heap.get? b = some o → b ≠ P → s'.heap.get? b = some o) → Q (.ref f) s') : wpAny (model X.prog X.w) X.A (eval (.Lambda params body scope lp) X.env) Q E s := by
  subst hq
  have at0 : s.heap.get? P = some (tabObj ps) := I.hok P _ hP
  have hg : s.heap.Ns mainGlobals X.mg := I.mod.glob.keeps I.bk
  have hC : CodeHd s.heap c P := C.keeps I.bk
  have hgP : mainGlobals ≠ P := fun z => by
    obtain ⟨o, es, ep, e, d, _⟩ := hg
    rw [z, at0] at e; cases e; cases d
  have hB : s.heap.BuiltinsAt X.mg P := by
    obtain ⟨b, ob, b1, b2, b3, b4, b5, b6⟩ := bm
    have b3' := I.bk b ob b3
    refine ⟨b, ob, b1, b2, fun z => ?_, fun z => ?_, b3', b4, b5, b6⟩
    · obtain ⟨o, es, ep, e, d, _⟩ := hg
      rw [← z, b3'] at e; cases e; rw [b6] at d; cases d
    · rw [z, at0] at b3'; cases b3'; cases b4
  have neL : X.env.locals ≠ P := fun z => by have := I.free; rw [z, hP] at this; cases this
  refine kla_eval hdef ?_
  rcases hT with rfl | ⟨c', rfl, hc'⟩
  · refine kla_makeFunction hcl I.ok.glob hg hcode hC at0 trivial rfl hgP hB fun c' ctv h' tk hx hge hlt hrec htb => ?_
    have hcn : H c' = none := I.hok.fresh hge
    have hcP : c' ≠ P := fun z => by rw [z, hP] at hcn; cases hcn
    have hfn : H h'.objs.size = none := I.hok.fresh (Nat.le_trans hge (Nat.le_of_lt hlt))
    have kp : ∀ (ob : Obj) b o, b ≠ P → s.heap.get? b = some o → (h'.push ob).get? b = some o := fun ob b o n e => Heap.get?_push_of_some _ (hx b o n e)
    have eH : ∀ b, b ≠ P → b ≠ c' → upd (upd H P (.tbl #[rawInt lp.line, rawInt lp.col, .ref c'])) c' (cRec c' (X.env.qual ++ "<lambda>")) b = H b := fun b n1 n2 => by rw [upd_ne n2, upd_ne n1]
    refine h h'.objs.size c' _ ctv (upd (upd H P (.tbl #[rawInt lp.line, rawInt lp.col, .ref c'])) c' (cRec c' (X.env.qual ++ "<lambda>"))) _ (I.step (g' := s.gens) (d' := s.drawn) (ch := []) (fun _ z => nomatch z) (fun b o _ _ _ e n => ?_) (fun b o _ _ _ e n => ?_) (fun b o _ e n => ?_) (fun b o _ e => ?_)
      (fun b xs e => ?_) (fun b o u e => ?_) (fun b ps e => ?_) (fun m2 hm2 => (hm2.extBut hx neL).push _) (fun b u e => ?_) I.bare) (Nat.le_trans hge (Nat.le_of_lt hlt)) (Heap.get?_push_size _ rfl) ?_ upd_same (.inr ⟨c', hcn, ⟨_, hP⟩, rfl⟩) fun b o e n => kp _ b o n e
    · exact kp _ b o (fun z => by rw [z, hP] at n; cases n) e
    · exact ⟨o.slots, kp _ b o (fun z => by rw [z, hP] at n; cases n) e⟩
    · rw [eH b (fun z => by rw [z, hP] at n; cases n) (fun z => by rw [z] at e; exact absurd (Heap.lt_size e) (Nat.not_lt.mpr hge))]; exact n
    · by_cases hb : b = P
      · exact ⟨_, by rw [hb]; exact Heap.get?_push_of_some _ htb⟩
      · exact ⟨o, kp _ b o hb e⟩
    · rw [eH b (ne_of e hP (by intro z; cases z)) (ne_of_none e hcn)]; exact e
    · rw [eH b (ne_of e hP (by intro z; cases z)) (ne_of_none e hcn)]; exact e
    · by_cases hb : b = P
      · subst hb
        rw [hP] at e; cases e
        exact ⟨#[rawInt lp.line, rawInt lp.col, .ref c'], by rw [upd_ne hcP.symm, upd_same]; rfl⟩
      · exact ⟨#[], by rw [eH b hb (ne_of_none e hcn), e]; simp⟩
    · by_cases hb : b = c'
      · subst hb
        rw [upd_same] at e; cases e
        obtain ⟨c2, oc, vs, t, e2, h1, h2⟩ := id hrec
        cases e2
        exact ⟨codeRec_keep hrec fun o z => Heap.get?_push_of_some _ z, ⟨oc, Heap.get?_push_of_some _ h1⟩, fun h1 h2 x k => codeRec_keep x k⟩
      · rw [upd_ne hb] at e
        by_cases hb2 : b = P
        · subst hb2
          rw [upd_same] at e; cases e
          exact Heap.get?_push_of_some _ htb
        · rw [upd_ne hb2] at e
          refine (I.hok b u e).stay (fun d v hd z => kp _ d v (fun w => ?_) z) (fun d z => ?_) fun d xs z => ?_
          · rcases hd with hd | hd
            · exact hb2 (hd.symm.trans w)
            · rw [w, hP] at hd; cases hd
          · rw [eH d (ne_of z hP (by intro z; cases z)) (ne_of_none z hcn)]; exact z
          · rw [eH d (ne_of z hP (by intro z; cases z)) (ne_of_none z hcn)]; exact z
    · rw [eH _ (fun z => by rw [z, hP] at hfn; cases hfn) (Nat.ne_of_gt hlt)]; exact hfn
  · have hf : codeAmong lp [rawInt lp.line, rawInt lp.col, .ref c'] = some (.ref c') := by simp [codeAmong, rawInt]
    refine kla_makeFunctionHit hcl I.ok.glob hg hcode hC at0 trivial hf hB fun ctv h' tk hk hsz => ?_
    have hk2 : ∀ (ob : Obj) b o, s.heap.get? b = some o → (h'.push ob).get? b = some o := fun ob b o e => Heap.get?_push_of_some _ (hk b o e)
    exact h h'.objs.size c' _ ctv H _ (I.kept (hk2 _)) hsz (Heap.get?_push_size _ rfl) (I.hok.fresh hsz) hc' (.inl ⟨rfl, _, hP, .inr ⟨c', rfl, hc'⟩⟩) fun b o e _ => hk2 _ b o e
end
end L2
set_option Elab.async false
set_option linter.all false
set_option maxRecDepth 100000
namespace L2
open PySem PySem.Spec PyProof.Rows PySem.W PySem.Calls
section
variable {X : Cx} {pins : List (Addr × Obj)} {σ : St} {H : Hp} {s : Shared} {m : Str → Option Value}
def allX (base h : Heap) (L d : Addr) : List (Addr × Obj) := (allN base h L).filter fun p => decide (p.1 ≠ d)
theorem allX_ne {base h : Heap} {L d : Addr} : ∀ p ∈ allX base h L d, p.1 ≠ d := fun p hp => of_decide_eq_true (List.mem_filter.mp hp).2
theorem allX_mem {base h : Heap} {L d b : Addr} {o : Obj} (ho : h.get? b = some o) (hL : b ≠ L) (hb : base.get? b = none) (hd : b ≠ d) : (b, o) ∈ allX base h L d := List.mem_filter.mpr ⟨allN_mem ho hL hb, decide_eq_true hd⟩
theorem allX_news {base h : Heap} {L d : Addr} {od : Obj} (ho : h.get? d = some od) (hL : d ≠ L) (hb : base.get? d = none) : News base L h ((d, od) :: allX base h L d) := fun p hp => by
  rcases List.mem_cons.mp hp with rfl | hp
  · exact ⟨ho, hL, hb⟩
  · exact allN_news p (List.mem_filter.mp hp).1
theorem ns_one {h : Heap} {L : Addr} {m m2 : Str → Option Value} (a : h.Ns L m) (b : h.Ns L m2) : m2 = m := by
  obtain ⟨o1, es1, ep1, a1, a2, _, a4⟩ := a
  obtain ⟨o2, es2, ep2, b1, b2, _, b4⟩ := b
  rw [a1] at b1
  cases b1
  rw [a2] at b2
  cases b2
  funext x
  rw [← a4, ← b4]
theorem Inv.poke {h' : Heap} {d : Addr} {od od' : Obj} {tk : Nat} (I : Inv X pins σ H s) (hn : s.heap.Ns X.env.locals m) (F : Fr X.base X.env.locals h' m) (N : News X.base X.env.locals h' ((d, od') :: allX X.base s.heap X.env.locals d))
    (hd : s.heap.get? d = some od) (hc : ∀ v, od.data ≠ .cell v) (hs : X.s₀.heap.objs.size ≤ d) (hH : H d = none) (hp : ∀ p ∈ X.pn ++ pins, p.1 ≠ d) : Inv X pins σ H { s with heap := h', toks := tk } := by
  obtain ⟨d1, d2, d3⟩ := N _ List.mem_cons_self
  have keep : ∀ b o, s.heap.get? b = some o → b ≠ X.env.locals → b ≠ d → h'.get? b = some o := fun b o e hb hbd => by
    cases q : X.base.get? b with
    | some o2 =>
      have e2 := I.bk b o2 q
      rw [e] at e2
      cases e2
      exact F.keep b o q
    | none => exact (N _ (List.mem_cons_of_mem _ (allX_mem e hb q hbd))).1
  have nL : ∀ b u, H b = some u → b ≠ X.env.locals := fun b u e z => by rw [z, I.free] at e; cases e
  have nd : ∀ b u, H b = some u → b ≠ d := fun b u e z => by rw [z, hH] at e; cases e
  refine I.step (g' := s.gens) (d' := s.drawn) (ch := [d]) (fun b hb => ?_) (fun b o hb _ hx e _ => keep b o e hb (by simpa using hx)) (fun b o hb _ hx e _ => ⟨o.slots, keep b o e hb (by simpa using hx)⟩) (fun b o _ e n => n) (fun b o hx e => ?_)
    (fun b xs e => e) (fun b o u e => e) (fun b ps e => ⟨#[], by rw [e]; simp⟩) (fun m2 hm2 => ?_) (fun b u e => ?_) I.bare
  · rw [List.mem_singleton.mp hb]
    refine ⟨.inr hs, d2, fun x c e z => ?_, hp⟩
    obtain ⟨v, o, ho, hv⟩ := I.cell x c e
    rw [z, hd] at ho
    cases ho
    exact hc _ hv
  · by_cases hb : b = X.env.locals
    · obtain ⟨oL, _, _, hoL, _⟩ := F.ns
      exact ⟨oL, by rw [hb]; exact hoL⟩
    · exact ⟨o, keep b o e hb (by simpa using hx)⟩
  · rw [ns_one hn hm2]; exact F.ns
  · refine (I.hok b u e).stay (fun c v hc q => keep c v q ?_ ?_) (fun c q => q) fun c xs q => q
    · rcases hc with rfl | hc
      · exact nL c _ e
      · exact nL c _ hc
    · rcases hc with rfl | hc
      · exact nd c _ e
      · exact nd c _ hc
theorem Inv.track {d : Addr} {xs : List V} {its : List Value} {n : Nat} (I : Inv X pins σ H s) (hd : s.heap.get? d = some { cls := .type "list", data := .seq its.toArray n }) (r : Vals xs its) (hz : xs.length ≤ sizeLine) (hs : X.s₀.heap.objs.size ≤ d) (hH : H d = none) (hL : d ≠ X.env.locals) (hp : ∀ p ∈ X.pn ++ pins, p.1 ≠ d) :
    Inv X pins σ (upd H d (.lst xs)) s := by
  have nd : ∀ b u, H b = some u → b ≠ d := fun b u e z => by rw [z, hH] at e; cases e
  refine I.step (h' := s.heap) (g' := s.gens) (d' := s.drawn) (t' := s.toks) (ch := [d]) (fun b hb => ?_) (fun b o _ _ _ e _ => e) (fun b o _ _ _ e _ => ⟨o.slots, e⟩) (fun b o hx e n => by rw [upd_ne (by simpa using hx)]; exact n) (fun b o _ e => ⟨o, e⟩)
    (fun b xs e => by rw [upd_ne (nd b _ e)]; exact e) (fun b o u e => by rw [upd_ne (nd b _ e)]; exact e) (fun b ps e => ⟨#[], by rw [upd_ne (nd b _ e), e]; simp⟩) (fun m2 hm2 => hm2) (fun b u e => ?_) I.bare
  · rw [List.mem_singleton.mp hb]
    refine ⟨.inr hs, hL, fun x c e z => ?_, hp⟩
    obtain ⟨v, o, ho, hv⟩ := I.cell x c e
    rw [z, hd] at ho
    cases ho
    cases hv
  · by_cases hb : b = d
    · subst hb
      rw [upd_same] at e; cases e
      exact ⟨hz, its, n, r, hd⟩
    · rw [upd_ne hb] at e
      exact (I.hok b u e).stay (fun c v _ q => q) (fun c q => by rw [upd_ne (nd c _ q)]; exact q) fun c xs q => by rw [upd_ne (nd c _ q)]; exact q
end
section
variable {X : Cx} {pins : List (Addr × Obj)} {σ : St} {m : Str → Option Value} {q x y : Str} {params : Arguments} {body : Expr} {scope : Scope} {f c' cy D kS : Addr} {pm ctv : Value} {vy : V} {tb : TE} {k iy : Nat} {J : Hp → Prop} {g : Int → Int}
abbrev lamObj (q : Str) (params : Arguments) (body : Expr) (scope : Scope) (y : Str) (cy c' : Addr) (pm ctv : Value) : Obj := { cls := .type "function", data := .func (kla_fn "<lambda>" q params body scope [(y, cy)] pm (.ref c') ctv) }
theorem key_one {H : Hp} {s : Shared} {n : Int} {t : Tok} {Q : Value → Shared → Prop} (S : LamSc x y scope) (hr : Room (k + 1) X.A.in1.in1) (I : Inv X pins σ H s) (hn : s.heap.Ns X.env.locals m) (ho : s.heap.get? f = some (lamObj q params body scope y cy c' pm ctv)) (hc : H c' = some (cRec c' q))
    (hbind : ∀ u : Value, bindArgs (kla_fn "<lambda>" q params body scope [(y, cy)] pm (.ref c') ctv) ⟨[u], []⟩ = pure [(x, u)]) (hl : X.env.cells.lookup y = some cy) (hy : X.N[iy]? = some y) (hv : Vis X.env.scope y) (hkd : X.env.kindOf y = some .cell ∨ X.env.kindOf y = some .free) (hσ : σ[iy]? = some (some vy))
    (hb : ∀ (A : Around) (outer : List Env) (s : Shared) (H : Hp), Room k (A.deeper (envX q scope s.heap.objs.size f (.ref c') [(y, cy)])) → PE (cxLam X.prog X.w X.K X.mg X.base [x, y] q scope f (.ref c') [(y, cy)] A outer s H) body tb)
    (hJ : tb [some (.int n), some vy] H fun v H' => v = .int (g n) ∧ J H') (h : ∀ t' H' s', Inv X pins σ H' s' → s'.heap.Ns X.env.locals m → J H' → Q (.int (g n) t') s') :
    wpAny (model X.prog X.w) X.A.in1.in1 (call (.ref f) [.int n t]) Q (fun _ _ => False) s := by
  obtain ⟨m', hn', hlk⟩ := I.loc
  obtain ⟨uy, ry, look⟩ := hlk iy y vy hy hσ hv
  have hcell : s.heap.IsCell cy (some uy) := by
    rcases look with ⟨k1, _⟩ | ⟨_, c2, e2, z⟩
    · rcases hkd with k2 | k2 <;> (rw [k1] at k2; cases k2)
    · rw [hl] at e2; cases e2; exact z
  have hcr : s.heap.CodeRec (.ref c') q := (show ObjOk X.prog X.w H s.heap c' (cRec c' q) from I.hok c' _ hc).1
  refine wpAny_call (codeAny_mono (lam_run (E := fun _ _ _ => False) S hr I.env0.in1.in1 ho hcr (hbind _) (v := .int n) ⟨t, rfl⟩ hcell ry (I.freeC y cy hl) (hb _ _ _ _ (hr.deeper _)) hJ) fun r s' hq => ?_)
  cases r with
  | error e => exact (show False from hq).elim
  | ok fl =>
    cases fl with
    | next => exact False.elim hq
    | brk => exact False.elim hq
    | cont => exact False.elim hq
    | ret u =>
      have un := hq
      obtain ⟨v, H', _, _, un, _⟩ := un
      obtain ⟨v', H2, I2, rv, ev, j⟩ := I.after hq
      subst ev
      obtain ⟨t', rfl⟩ := (show ∃ t, u = Value.int (g n) t from rv)
      refine h t' H2 s' I2 ?_ j
      obtain ⟨o, es, ep, e, d, r⟩ := hn
      obtain ⟨sl, e'⟩ := un.any e I.free (by simp)
      exact ⟨_, es, ep, e', d, r⟩
end
end L2
set_option Elab.async false
set_option linter.all false
set_option maxRecDepth 100000
namespace L2
open PySem PySem.Spec PyProof.Rows PySem.W PySem.Calls
section
variable {prog : Program} {w : World} {A : Around} {E : Value → Shared → Prop} {s : Shared} {r : Addr} {t u v : Tok} {n : Nat}
theorem collectR {Q : List Value → Shared → Prop} (hh : A.handled = none) (hr : IsRange s.heap r 0 n 1 t u v) (hsm : Builtin.Range.small 0 n 1 = true) (hn : Builtin.Range.rangeSize 0 n 1 = n) (hz : n < 64)
    (h : ∀ (h' : Heap) (tk : Nat) (vs : List Value), (∀ b o, s.heap.get? b = some o → h'.get? b = some o) → vs.length = n → (∀ (j : Nat) (x : Value), vs[j]? = some x → ∃ t, x = .int (j : Int) t) → Q vs { s with heap := h', toks := tk }) :
    wpAny (model prog w) A (collect (.ref r)) Q E s := by
  unfold collect
  refine wpAny_bind (wpAny_runValue ?_)
  refine codeAny_builtin entry_proto_collect' ?_
  rewrite [Around.under_plainId PySem.F.plain_proto_collect _]
  refine wpAny_bind (m := newList []) (wpAny_newObj_type (wpAny_pure ⟨plainId_quiet PySem.F.plain_list_iadd _, codeAny_builtin entry_list_iadd' ?_⟩))
  rewrite [Around.under_plainId PySem.F.plain_list_iadd _]
  have at1 : (s.heap.push { cls := .type "list", data := .seq ([] : List Value).toArray }).get? s.heap.objs.size = some { cls := .type "list", data := .seq #[] } := Heap.get?_push_size _ rfl
  have main := wpAny_extend_range (A := A) (s := { s with heap := s.heap.push { cls := .type "list", data := .seq ([] : List Value).toArray } }) (prog := prog) (w := w)
    (R := fun (q : Result) (s' : Shared) => ∃ (h' : Heap) (tk : Nat) (acc : Array Value) (c : Nat), q = .ok (.ret (.ref s.heap.objs.size)) ∧ s' = { s with heap := h', toks := tk } ∧ (∀ b o, s.heap.get? b = some o → h'.get? b = some o) ∧
      h'.get? s.heap.objs.size = some { cls := .type "list", dict := none, data := .seq acc c, slots := #[] } ∧ ItemsOf (fun i v => ∃ t, v = .int (0 + (i : Int) * 1) t) acc n)
    hh (Heap.get?_push_of_some _ hr) hsm hn (by omega) s.heap.objs.size (.ref s.heap.objs.size) 0 at1
    (fun h' tk acc c hk hS hacc => ⟨h', tk, acc, c, rfl, rfl, fun b o e => hk b o (Nat.ne_of_lt (Heap.lt_size e)) (Heap.get?_push_of_some _ e), hS, hacc⟩)
  have fin : ∀ (h' : Heap) (tk : Nat) (acc : Array Value), (∀ b o, s.heap.get? b = some o → h'.get? b = some o) → ItemsOf (fun i v => ∃ t, v = .int (0 + (i : Int) * 1) t) acc n → Q acc.toList { s with heap := h', toks := tk } := fun h' tk acc hk hacc =>
    h h' tk acc.toList hk (by rw [Array.length_toList]; exact hacc.1) fun j x e => by
      obtain ⟨t, z⟩ := hacc.2 j x (by rw [← Array.getElem?_toList]; exact e)
      exact ⟨t, by rw [z]; simp⟩
  refine wpAny_mono main (fun fn s' z => ?_) fun e s' z => ?_
  · cases fn with
    | done fl =>
      obtain ⟨h', tk, acc, c, e, rfl, hk, hS, hacc⟩ := z
      cases e
      exact wpAny_bind (m := load s.heap.objs.size) (wpAny_load hS (wpAny_pure (fin h' tk acc hk hacc)))
    | again c1 =>
      refine ⟨z.1, codeAny_mono z.2 fun q s2 z2 => ?_⟩
      obtain ⟨h', tk, acc, c, rfl, rfl, hk, hS, hacc⟩ := z2
      exact wpAny_bind (m := load s.heap.objs.size) (wpAny_load hS (wpAny_pure (fin h' tk acc hk hacc)))
  · obtain ⟨_, _, _, _, e2, _⟩ := z
    cases e2
theorem ints_range : ∀ {vs : List Value} {n : Nat}, vs.length = n → (∀ (j : Nat) (x : Value), vs[j]? = some x → ∃ t, x = .int (j : Int) t) → IntsAre vs ((List.range n).map Int.ofNat) := fun {vs n} hl h =>
  ints_of (by simp [hl]) fun j x e => by
    obtain ⟨t, z⟩ := h j x e
    have hj : j < n := by rw [← hl]; exact (List.getElem?_eq_some_iff.mp e).1
    exact ⟨t, by rw [z]; simp [hj]⟩
theorem sortedR {f : Addr} {Q : Value → Shared → Prop} (hh : A.handled = none) (hr : IsRange s.heap r 0 n 1 t u v) (hsm : Builtin.Range.small 0 n 1 = true) (hn : Builtin.Range.rangeSize 0 n 1 = n) (hz : n < 64)
    (h : ∀ (D kS e1 : Nat) (vs : List Value) (h1 h' : Heap) (tk : Nat) (P : PySem.Fin → Shared → Prop) (E' : Value → Shared → Prop), (∀ b o, s.heap.get? b = some o → h1.get? b = some o) → (∀ b o, h1.get? b = some o → h'.get? b = some o) → h1.objs.size ≤ D → D < kS → h'.get? D = some (seqObj "list" #[] e1) → h'.get? kS = some (seqObj "list" #[] 0) →
      IntsAre vs ((List.range n).map Int.ofNat) → (∀ s4, Q (.ref D) s4 → P (.done (.ret .none)) s4) → wpAny (model prog w) A.in1.in1 (ksk_rest D (.ref f) false vs.toArray e1 (.ref kS)) P E' { s with heap := h', toks := tk }) :
    wpAny (model prog w) A (call (.builtin "sorted") [.ref r] [(Str.ofString "key", .ref f)]) Q E s := by
  refine call_function_entry_kw kind_sorted plain_sorted entry_sorted (ksk_s1 _ _) ?_
  unfold Builtin.«sorted»
  refine wpAny_bind (m := checkCount "sorted" 1 1 _) (wpAny_pure (wpAny_bind (collectR (A := A.in1) hh hr hsm hn hz fun h1 tk vs hk hl hv => ?_)))
  have zv : vs.length ≤ sizeLine := by rw [sizeLine_eq]; omega
  refine wpAny_bind (wpAny_newList ?_ zv)
  have ol : (h1.push (seqObj "list" vs.toArray 0)).get? h1.objs.size = some (seqObj "list" vs.toArray 0) := Heap.get?_push_size _ rfl
  refine wpAny_bind (wpAny_holding (wpAny_call_entry_kw slot_list_sort ⟨_, ol, rfl⟩ entry_list_sort ?_ (ksk_l1 _ _)))
  show wpAny (model prog w) A.in1.in1 (Builtin.«list.sort» ⟨[.ref h1.objs.size], [(Str.ofString "key", .ref f)]⟩) _ _ _
  rw [ksk_t1]
  unfold ksk_tree
  obtain ⟨e1, o1⟩ : ∃ e, ((h1.push (seqObj "list" vs.toArray 0)).update h1.objs.size (Obj.mapSeq fun _ => (#[] : Array Value))).get? h1.objs.size = some (seqObj "list" #[] e) := ⟨_, get?_update_seq ol _⟩
  refine wpAny_bind (listItems_at ol rfl (wpAny_bind (listUpdate_at ol rfl (wpAny_bind (seqEpoch_at o1 rfl (wpAny_bind (wpAny_newTuple (wpAny_bind (wpAny_newList (wpAny_holding ?_) (Nat.zero_le _))) zv)))) (by simpa using zv) (Nat.zero_le _))))
  have z1 : ((h1.push (seqObj "list" vs.toArray 0)).update h1.objs.size (Obj.mapSeq fun _ => (#[] : Array Value))).objs.size = h1.objs.size + 1 := (Heap.size_update ..).trans (size_push' ..)
  have k1 : ∀ b o, h1.get? b = some o → ((h1.push (seqObj "list" vs.toArray 0)).update h1.objs.size (Obj.mapSeq fun _ => (#[] : Array Value))).get? b = some o := fun b o e => by
    rw [Heap.get?_update_ne _ _ _ _ (Nat.ne_of_lt (Heap.lt_size e))]
    exact Heap.get?_push_of_some _ e
  refine h h1.objs.size _ e1 vs h1 _ tk _ _ hk (fun b o e => Heap.get?_push_of_some _ (Heap.get?_push_of_some _ (k1 b o e))) (Nat.le_refl _) ?_ (Heap.get?_push_of_some _ (Heap.get?_push_of_some _ o1)) (Heap.get?_push_size _ rfl) (ints_range hl hv) fun s4 q => ⟨_, rfl, wpAny_pure ⟨_, rfl, q⟩⟩
  rw [size_push', z1]
  omega
theorem rest_any {h₀ : Heap} {L a kS : Addr} {m : Str → Option Value} {vs : List Value} {f : Value} {e1 : Nat} {P : PySem.Fin → Shared → Prop} (hk : s.heap.get? kS = some (seqObj "list" #[] 0)) (h64 : vs.length < 64)
    (h : KatKeys prog w A h₀ L m kS f (fun ks e s' => ks.length = vs.length → wpAny (model prog w) A (ksk_end a false vs.toArray e1 (.ref kS) (List.toArray ks)) P E s') vs [] 0 s) : wpAny (model prog w) A (ksk_rest a f false vs.toArray e1 (.ref kS)) P E s := by
  unfold ksk_rest
  refine wpAny_bind (wpAny_rule ?_)
  rw [List.forIn_toArray]
  refine wpAny_bind (wpAny_mono (kat_fold h64 (fun x ks e s' C hz hx => ?_) vs [] 0 s (Nat.zero_add _) hk h) (fun _ s' hd => ?_) fun _ _ z => z)
  · refine wpAny_bind (wpAny_attempt (wpAny_mono hx (fun k s2 kb => ?_) fun _ _ z => z.elim))
    obtain ⟨nw, g, F', N', U, c⟩ := kb
    obtain ⟨pre, post, e0, hg, n1, n2⟩ := U.split
    subst e0
    have atk := N' (kS, seqObj "list" (List.toArray ks) e) (List.mem_append_right _ List.mem_cons_self)
    have sb := Heap.SameBut.update s2.heap kS (Obj.mapSeq (·.push k))
    obtain ⟨c2, hc2⟩ : ∃ c2, (s2.heap.update kS (Obj.mapSeq (·.push k))).get? kS = some (seqObj "list" (List.toArray (ks ++ [k])) c2) := ⟨_, by rw [show List.toArray (ks ++ [k]) = (List.toArray ks).push k by simp]; exact get?_update_seq atk.1 (·.push k)⟩
    refine wpAny_bind (listUpdate_at atk.1 rfl (wpAny_pure ⟨rfl, k, c2, hc2, c _ c2 (kas_fr F' sb atk.2.1 atk.2.2) ?_⟩) (by rw [List.size_toArray, sizeLine_eq]; omega) (by rw [Array.size_push, List.size_toArray, sizeLine_eq]; omega))
    rw [hg]
    exact news_set N' n1 n2 sb hc2
  · obtain ⟨ks, e, hk2, hl, fin⟩ := hd
    exact wpAny_bind (listItems_at hk2 rfl (fin hl))
end
end L2
set_option Elab.async false
set_option linter.all false
set_option maxRecDepth 100000
namespace L2
open PySem PySem.Spec PyProof.Rows PySem.W PySem.Calls
theorem ints_snoc {ks : List Value} {kz : List Int} {n : Int} {t : Tok} (h : IntsAre ks kz) : IntsAre (ks ++ [Value.int n t]) (kz ++ [n]) := by
  induction h with
  | nil => exact .cons _ _ .nil
  | cons a b _ ih => exact .cons _ _ ih
theorem ints_at : ∀ {vs : List Value} {ns : List Int}, IntsAre vs ns → ∀ i, i < ns.length → ∃ t, vs.getD i Value.none = .int (ns.getD i 0) t
  | _, _, .nil, i, h => by cases h
  | _, _, .cons n t r, 0, _ => ⟨t, rfl⟩
  | _, _, .cons n t r, i + 1, h => by simpa using ints_at r i (by simpa using h)
theorem ints_pick {vs : List Value} {ns : List Int} (h : IntsAre vs ns) : ∀ (π : List Nat), (∀ i ∈ π, i < ns.length) → Vals ((π.map fun i => ns.getD i 0).map V.int) (π.map fun i => vs.getD i Value.none)
  | [], _ => .nil
  | i :: π, hi => by
    obtain ⟨t, e⟩ := ints_at h i (hi i List.mem_cons_self)
    exact .cons ⟨t, e⟩ (ints_pick h π fun j hj => hi j (List.mem_cons_of_mem _ hj))
structure NewAt (X : Cx) (pins : List (Addr × Obj)) (d : Addr) : Prop where
  base : X.base.get? d = none
  size : X.s₀.heap.objs.size ≤ d
  pin : ∀ p ∈ X.pn ++ pins, p.1 ≠ d
section
variable {X : Cx} {pins : List (Addr × Obj)} {σ : St} {H : Hp} {s : Shared} {m : Str → Option Value} {kS D : Addr}
theorem Inv.fr0 (I : Inv X pins σ H s) (hn : s.heap.Ns X.env.locals m) : Fr X.base X.env.locals s.heap m := ⟨hn, I.bk, Nat.le_trans I.ok.bsz I.ok.above⟩
theorem Inv.dropPin {p : Addr × Obj} (I : Inv X (p :: pins) σ H s) : Inv X pins σ H s := I.pins_of fun q hq => I.pin q (List.mem_append_right _ (List.mem_cons_of_mem _ hq))
theorem Inv.pinAt {p : Addr × Obj} (I : Inv X (p :: pins) σ H s) : s.heap.get? p.1 = some p.2 ∧ H p.1 = none ∧ p.1 ≠ X.env.locals ∧ p.1 ∉ X.fs ∧ ∀ v, p.2.data ≠ .cell v := I.pin p (List.mem_append_right _ List.mem_cons_self)
theorem Inv.addPin {p : Addr × Obj} (I : Inv X pins σ H s) (h : s.heap.get? p.1 = some p.2 ∧ H p.1 = none ∧ p.1 ≠ X.env.locals ∧ p.1 ∉ X.fs ∧ ∀ v, p.2.data ≠ .cell v) : Inv X (p :: pins) σ H s := I.pins_of fun q hq => by
  rcases List.mem_cons.mp hq with rfl | hq
  · exact h
  · exact I.pin q (List.mem_append_right _ hq)
theorem Inv.repin {xs ys : Array Value} {e c tk : Nat} {h' : Heap} (I : Inv X ((kS, seqObj "list" xs e) :: pins) σ H s) (hn : s.heap.Ns X.env.locals m) (w : NewAt X pins kS) (F : Fr X.base X.env.locals h' m) (N : News X.base X.env.locals h' ((kS, seqObj "list" ys c) :: allX X.base s.heap X.env.locals kS)) :
    Inv X ((kS, seqObj "list" ys c) :: pins) σ H { s with heap := h', toks := tk } := by
  obtain ⟨p1, p2, p3, p4, p5⟩ := I.pinAt
  have J := I.dropPin.poke (tk := tk) hn F N p1 p5 w.size p2 w.pin
  exact J.addPin ⟨(N _ List.mem_cons_self).1, p2, p3, p4, fun v z => by cases z⟩
theorem kat_done {ks out : List Value} {zs : List V} {e e1 : Nat} {C : Shared → Prop} (I : Inv X ((kS, seqObj "list" ks.toArray e) :: (D, seqObj "list" #[] e1) :: pins) σ H s) (hn : s.heap.Ns X.env.locals m) (w1 : NewAt X ((D, seqObj "list" #[] e1) :: pins) kS) (w2 : NewAt X pins D) (r : Vals zs out) (hz : zs.length ≤ sizeLine)
    (h : ∀ s4, Inv X pins σ (upd H D (.lst zs)) s4 → H D = none → C s4) : KatFin X.base X.env.locals m kS D ks e e1 out C s := by
  obtain ⟨p1, p2, p3, p4, p5⟩ := I.pinAt
  refine KatFin.intro (I.fr0 hn) (allX_news p1 p3 w1.base) (.head allX_ne) fun h' c F' N' => ?_
  have I1 := (I.repin (tk := s.toks) hn w1 F' N').dropPin
  obtain ⟨q1, q2, q3, q4, q5⟩ := I1.pinAt
  refine KasFin.intro F' (allX_news q1 q3 w2.base) (.head allX_ne) fun h2 c2 F2 N2 => ?_
  have I2 := (I1.dropPin).poke (tk := s.toks) F'.ns F2 N2 q1 q5 w2.size q2 w2.pin
  exact h _ (I2.track (N2 _ List.mem_cons_self).1 r hz w2.size q2 q3 w2.pin) q2
theorem keys_go {q x y : Str} {params : Arguments} {body : Expr} {scope : Scope} {f c' cy : Addr} {pm ctv : Value} {vy : V} {tb : TE} {k iy : Nat} {J : Hp → Prop} {g : Int → Int} {Fin : List Value → Nat → Shared → Prop}
    (S : LamSc x y scope) (hr : Room (k + 1) X.A.in1.in1) (hf : (f, lamObj q params body scope y cy c' pm ctv) ∈ pins) (hc : ∀ H, J H → H c' = some (cRec c' q)) (w1 : NewAt X pins kS)
    (hbind : ∀ u : Value, bindArgs (kla_fn "<lambda>" q params body scope [(y, cy)] pm (.ref c') ctv) ⟨[u], []⟩ = pure [(x, u)]) (hl : X.env.cells.lookup y = some cy) (hy : X.N[iy]? = some y) (hv : Vis X.env.scope y) (hkd : X.env.kindOf y = some .cell ∨ X.env.kindOf y = some .free) (hσ : σ[iy]? = some (some vy))
    (hb : ∀ (A : Around) (outer : List Env) (s : Shared) (H : Hp), Room k (A.deeper (envX q scope s.heap.objs.size f (.ref c') [(y, cy)])) → PE (cxLam X.prog X.w X.K X.mg X.base [x, y] q scope f (.ref c') [(y, cy)] A outer s H) body tb) :
    ∀ {vs : List Value} {ns : List Int}, IntsAre vs ns → (∀ n ∈ ns, ∀ H', J H' → tb [some (.int n), some vy] H' fun v H2 => v = .int (g n) ∧ J H2) → ∀ (ks : List Value) (kz : List Int) (e : Nat) (s : Shared) (H : Hp), IntsAre ks kz →
      Inv X ((kS, seqObj "list" ks.toArray e) :: pins) σ H s → s.heap.Ns X.env.locals m → J H →
      (∀ (ks' : List Value) (e' : Nat) (s' : Shared) (H' : Hp), IntsAre ks' (kz ++ ns.map g) → Inv X ((kS, seqObj "list" ks'.toArray e') :: pins) σ H' s' → s'.heap.Ns X.env.locals m → J H' → Fin ks' e' s') →
      KatKeys X.prog X.w X.A.in1.in1 X.base X.env.locals m kS (.ref f) Fin vs ks e s := by
  intro vs ns hi
  induction hi with
  | nil =>
    intro _ ks kz e s H hk I hn j fin
    exact KatKeys.nil (fin ks e s H (by simpa using hk) I hn j)
  | @cons n t vs ns hi ih =>
    intro hJ ks kz e s H hk I hn j fin
    have ho := (I.pin _ (List.mem_append_right _ (List.mem_cons_of_mem _ hf))).1
    refine KatKeys.cons (key_one (g := g) (J := J) S hr I hn ho (hc H j) hbind hl hy hv hkd hσ hb (hJ n List.mem_cons_self H j) fun t' H' s' I' hn' j' => ?_)
    obtain ⟨p1, p2, p3, p4, p5⟩ := I'.pinAt
    refine KatBack.intro (I'.fr0 hn') (allX_news p1 p3 w1.base) (.head allX_ne) fun h2 c F2 N2 => ?_
    have I2 := I'.repin (tk := s'.toks) hn' w1 F2 N2
    have hk2 : IntsAre (ks ++ [Value.int (g n) t']) (kz ++ [g n]) := ints_snoc hk
    refine ih (fun n' hn' => hJ n' (List.mem_cons_of_mem _ hn')) _ (kz ++ [g n]) c _ H' hk2 I2 F2.ns j' fun ks' e' s2 H2 hk3 => ?_
    rw [List.append_assoc] at hk3
    exact fin ks' e' s2 H2 hk3
theorem end_any {ks vs : List Value} {n e e1 : Nat} {g : Int → Int} {P : PySem.Fin → Shared → Prop} {E : Value → Shared → Prop} (h1 : 1 ≤ n) (h64 : n < 64) (hi : IntsAre vs ((List.range n).map Int.ofNat)) (hk : IntsAre ks (((List.range n).map Int.ofNat).map g))
    (I : Inv X ((kS, seqObj "list" ks.toArray e) :: (D, seqObj "list" #[] e1) :: pins) σ H s) (hn : s.heap.Ns X.env.locals m) (w1 : NewAt X ((D, seqObj "list" #[] e1) :: pins) kS) (w2 : NewAt X pins D)
    (h : ∀ s4 (ns : List Int), ns.Perm ((List.range n).map Int.ofNat) → ns.Pairwise (fun a b => g a ≤ g b) → Inv X pins σ (upd H D (.lst (ns.map V.int))) s4 → H D = none → P (.done (.ret .none)) s4) :
    wpAny (model X.prog X.w) X.A.in1.in1 (ksk_end D false vs.toArray e1 (.ref kS) (List.toArray ks)) P E s := by
  have lv : vs.length = n := by have := hi.length; simpa using this
  have lk : ks.length = n := by have := hk.length; simpa using this
  have fin : ∀ (π : List Nat), π.Perm (List.range n) → (∀ i j, i ≤ j → j < π.length → g (π.getD i 0 : Nat) ≤ g (π.getD j 0 : Nat)) → KatFin X.base X.env.locals m kS D ks e e1 (π.map fun i => vs.getD i Value.none) (fun s4 => P (.done (.ret .none)) s4) s := fun π hp ho => by
    have pin : ∀ i ∈ π, i < n := fun i z => List.mem_range.mp (hp.mem_iff.mp z)
    have em : (π.map fun i => ((List.range n).map Int.ofNat).getD i 0) = π.map Int.ofNat := List.map_congr_left fun i z => by simp [pin i z]
    have hv := ints_pick hi π fun i z => by simpa using pin i z
    rw [em] at hv
    refine kat_done I hn w1 w2 hv (by rw [List.length_map, List.length_map, hp.length_eq, List.length_range, sizeLine_eq]; omega) fun s4 J hD => h s4 _ (hp.map Int.ofNat) ?_ J hD
    rw [List.pairwise_iff_getElem]
    intro i j hi hj hij
    rw [List.length_map] at hi hj
    have z := ho i j (by omega) hj
    simp only [List.getElem_map]
    rw [show π.getD i 0 = π[i] by simp [hi], show π.getD j 0 = π[j] by simp [hj]] at z
    exact z
  by_cases h2 : 2 ≤ n
  · refine kat_end (b := false) (e := e) (h₀ := X.base) (L := X.env.locals) (m := m) (by rw [lk, lv]) (by omega) (by omega) ?_
    rw [ksk_kind (by simpa using hk) (by rw [List.size_toArray]; omega)]
    refine wpAny_pure ?_
    refine sort_ok (key := fun i => g (i : Nat)) (N := vs.length) (fun i j C hi' hj' hC => ?_) (by omega) fun pm hp hup => ?_
    · unfold kas_ask
      obtain ⟨t1, a1⟩ := ints_at hk i (by simp; omega)
      obtain ⟨t2, a2⟩ := ints_at hk j (by simp; omega)
      show wpAny _ _ (keyLt' oneType' (ks.getD i Value.none) (ks.getD j Value.none)) _ _ _
      rw [a1, a2]
      refine kat_lt_int ?_
      rw [show (((List.range n).map Int.ofNat).map g).getD i 0 = g (i : Nat) by simp [show i < n by omega], show (((List.range n).map Int.ofNat).map g).getD j 0 = g (j : Nat) by simp [show j < n by omega]]
      exact hC
    · have pl : pm.toList.Perm (List.range n) := by rw [← lv]; simpa using Array.perm_iff_toList_perm.mp hp.pm
      refine fin pm.toList pl fun i j hij hj => ?_
      have hup := hup i j hij (by rw [Array.length_toList, hp.size] at hj; exact hj)
      unfold kyA at hup
      rw [show pm.toList.getD i 0 = pm.getD i 0 by simp [Array.getD_eq_getD_getElem?], show pm.toList.getD j 0 = pm.getD j 0 by simp [Array.getD_eq_getD_getElem?]]
      exact hup
  · have c2 : vs.toArray.size < 2 := by rw [List.size_toArray]; omega
    unfold ksk_end
    simp only [if_pos c2, Bool.false_eq_true, if_false]
    refine wpAny_bind (wpAny_pure ?_)
    rw [StateT.run_pure]
    refine wpAny_bind (wpAny_pure ?_)
    dsimp only
    have eo : (arrOf (SortSt.mk' general' ((List.toArray ks).zip vs.toArray) #[] 7 none)).map (·.2) = List.toArray vs := by
      show ((List.toArray ks).zip vs.toArray).map (·.2) = vs.toArray
      simp only [List.zip_toArray, List.map_toArray]
      rw [List.map_snd_zip (by omega)]
    refine kat_tail (b := false) (e := e) (h₀ := X.base) (L := X.env.locals) (m := m) (ks := ks) (out := vs) eo (by omega) (by omega) rfl ?_
    have e1 : ((List.range n).map fun i => vs.getD i Value.none) = vs := by rw [← lv]; exact range_getD vs Value.none
    have := fin (List.range n) (List.Perm.refl _) fun i j hij hj => by
      rw [List.length_range] at hj
      have : i = j := by omega
      rw [this]; exact Int.le_refl _
    rw [e1] at this
    exact this
end
end L2
set_option Elab.async false
set_option linter.all false
set_option maxRecDepth 100000
namespace L2
open PySem PySem.Spec PyProof.Rows PySem.W PySem.Calls
def tSL (P : Addr) (lp : Pos) (q : Str) (ta : TA) (iy : Nat) (tb : TE) : TE := fun σ H Q => ta σ H fun zs H1 => ∃ (n : Nat) (vy : V) (ps : Array Value), zs = [.int n] ∧ 1 ≤ n ∧ n < 64 ∧ σ[iy]? = some (some vy) ∧ H1 P = some (.tbl ps) ∧ TblOk lp q H1 ps ∧
  ∀ H2, LStep lp q P H1 H2 → ∃ (J : Hp → Prop) (g : Int → Int), J H2 ∧ (∀ (i : Nat) (H3 : Hp), i < n → J H3 → tb [some (.int i), some vy] H3 fun v H4 => v = .int (g i) ∧ J H4) ∧ (∀ c', H2 c' = some (cRec c' q) → ∀ H3, J H3 → H3 c' = some (cRec c' q)) ∧
    ∀ (H3 : Hp) (D : Addr) (ns : List Int), J H3 → H3 D = none → ns.Perm ((List.range n).map Int.ofNat) → ns.Pairwise (fun a b => g a ≤ g b) → Q (.ref D) (upd H3 D (.lst (ns.map V.int)))
section
variable {X : Cx}
theorem pe_sortLam {e body : Expr} {ta : TA} {tb : TE} {P c cy : Addr} {lp p p2 p3 kp pos : Pos} {q x y : Str} {params : Arguments} {scope : Scope} {k iy : Nat}
    (S : LamSc x y scope) (he : PA X [e] ta) (hr : Room (k + 1) X.A.in1.in1) (hcode : X.env.code = .ref c) (C : CodeHd X.base c P) (bm : BMod X.base X.mg) (hq : X.env.qual ++ "<lambda>" = q)
    (hms : X.mg "sorted" = none) (hmr : X.mg "range" = none) (hcl : closureFor scope X.env = pure [(y, cy)]) (hl : X.env.cells.lookup y = some cy) (hy : X.N[iy]? = some y) (hkd : X.env.kindOf y = some .cell ∨ X.env.kindOf y = some .free)
    (hbind : ∀ (pm cd ctv u : Value), bindArgs (kla_fn "<lambda>" q params body scope [(y, cy)] pm cd ctv) ⟨[u], []⟩ = pure [(x, u)])
    (hb : ∀ (f : Addr) (cd : Value) (A : Around) (outer : List Env) (s : Shared) (H : Hp), Room k (A.deeper (envX q scope s.heap.objs.size f cd [(y, cy)])) → PE (cxLam X.prog X.w X.K X.mg X.base [x, y] q scope f cd [(y, cy)] A outer s H) body tb)
    (hdef : defaultsOf params X.env = ([], [])) (hgs : Gl X "sorted") (hgr : Gl X "range")
    (hs1 : starEach [e] X.env = [(false, eval e X.env)]) (hs2 : starEach [.Call (.Name "range" p2) [e] [] p3] X.env = [(false, eval (.Call (.Name "range" p2) [e] [] p3) X.env)]) :
    PE X (.Call (.Name "sorted" p) [.Call (.Name "range" p2) [e] [] p3] [⟨some "key", .Lambda params body scope lp, kp⟩] pos) (tSL P lp q ta iy tb) := by
  intro pins s σ H Q I h
  have hv : Vis X.env.scope y := by
    rcases hkd with z | z
    · exact .inr (.inl z)
    · exact .inr (.inr z)
  refine wpAny_Call_Name_kw (ld_blt I hgs hms bt_sorted ?_ (by decide) (by decide))
  refine PyProof.Rows.callWith_kw (id := "sorted") ?_ (by rw [hs2]; rfl) (by rw [hs2]; rfl) rfl rfl
  rw [hs2]
  refine Calls.spliced_cons (Call_ (ld_blt I hgr hmr boot_range (PyProof.Rows.callWith_type1 (thn (he p3 pins s σ H _ I h) fun us s1 ⟨vs, H1, I1, r1, q1⟩ => ?_) hs1 rfl)))
  obtain ⟨n, vy, ps, rfl, h1, h64, hσ, hP, hT, fin⟩ := q1
  obtain ⟨u, rfl, t, rfl⟩ := vals1 r1
  refine call_range_1 (Calls.spliced_nil ?_)
  have I2 : Inv X pins σ H1 { s1 with heap := s1.heap.push { cls := .type "range", data := .fields #[.int 0 s1.toks, .int (n : Int) t, .int 1 (s1.toks + 1)] }, toks := s1.toks + 1 + 1 } := I1.kept fun b o e => Heap.get?_push_of_some _ e
  have hrn : IsRange (s1.heap.push { cls := .type "range", data := .fields #[.int 0 s1.toks, .int (n : Int) t, .int 1 (s1.toks + 1)] }) s1.heap.objs.size 0 n 1 s1.toks t (s1.toks + 1) := IsRange.new ..
  have hrP : s1.heap.objs.size ≠ P := fun z => by
    have := I1.hok.fresh (Nat.le_refl s1.heap.objs.size)
    rw [z, hP] at this; cases this
  generalize hs2 : ({ s1 with heap := s1.heap.push { cls := .type "range", data := .fields #[.int 0 s1.toks, .int (n : Int) t, .int 1 (s1.toks + 1)] }, toks := s1.toks + 1 + 1 } : Shared) = s2 at I2 ⊢
  have hrn2 : IsRange s2.heap s1.heap.objs.size 0 n 1 s1.toks t (s1.toks + 1) := by rw [← hs2]; exact hrn
  refine PyProof.Rows.kws_cons (lam_make I2 hdef hcl hcode C bm hP hT hq fun f c' pm ctv H2 s3 I3 hf ho hfn hc' ls kp => ?_)
  refine PyProof.Rows.kws_nil ?_
  show wpAny (model X.prog X.w) X.A (call (.builtin "sorted") [.ref s1.heap.objs.size] [(Str.ofString "key", .ref f)]) _ _ s3
  obtain ⟨J, g, j0, jb, jc, jq⟩ := fin H2 ls
  have hd : X.A.handled = none := hr.hd
  refine sortedR hd (kp _ _ hrn2 hrP) (small_one (by omega) (by omega) (by omega) (by omega)) (by rw [rangeSize_one]; split <;> omega) h64 fun D kS e1 ws h1' h' tk Pf E' k1 k2 zD zK oD oK hi back => ?_
  have k3 : ∀ b o, s3.heap.get? b = some o → h'.get? b = some o := fun b o e => k2 b o (k1 b o e)
  have I4a : Inv X pins σ H2 { s3 with heap := h1', toks := tk } := I3.kept k1
  have I4 : Inv X pins σ H2 { s3 with heap := h', toks := tk } := I3.kept k3
  have hDn : H2 D = none := I4a.hok.fresh zD
  have hKn : H2 kS = none := I4a.hok.fresh (Nat.le_of_lt (Nat.lt_of_le_of_lt zD zK))
  obtain ⟨m, hn, _⟩ := id I4.loc
  have szb : X.base.objs.size ≤ h1'.objs.size := Nat.le_trans I4a.ok.bsz I4a.sz
  have nD : ∀ b o, h1'.get? b = some o → b < D := fun b o e => Nat.lt_of_lt_of_le (Heap.lt_size e) zD
  have fL : ∀ b, X.s₀.heap.objs.size ≤ b → b ∉ X.fs := fun b hb z => by
    obtain ⟨_, o, e, _⟩ := I4.ok.funs.mem z
    exact absurd (Heap.lt_size e) (Nat.not_lt.mpr hb)
  have lo : X.env.locals < D := by
    obtain ⟨m', ⟨o, _, _, e, _⟩, _⟩ := I4a.loc
    exact nD _ _ e
  have hf3 : h1'.get? f = some (lamObj q params body scope y cy c' pm ctv) := k1 _ _ ho
  have s0D : X.s₀.heap.objs.size ≤ D := Nat.le_trans I4a.sz zD
  have s0f : X.s₀.heap.objs.size ≤ f := Nat.le_trans I2.sz hf
  have nfL : f ≠ X.env.locals := fun z => by
    obtain ⟨m', ⟨o, _, _, e, _⟩, _⟩ := I2.loc
    exact absurd (Heap.lt_size e) (by rw [← z]; exact Nat.not_lt.mpr hf)
  have pn0 : ∀ p ∈ X.pn ++ pins, p.1 < D := fun p hp => nD _ _ (I4a.pin p hp).1
  have I5 := I4.addPin (p := (f, lamObj q params body scope y cy c' pm ctv)) ⟨k2 _ _ hf3, hfn, nfL, fL f s0f, fun v z => by cases z⟩
  have I6 := I5.addPin (p := (D, seqObj "list" #[] e1)) ⟨oD, hDn, Nat.ne_of_gt lo, fL D s0D, fun v z => by cases z⟩
  have I7 := I6.addPin (p := (kS, seqObj "list" ([] : List Value).toArray 0)) ⟨oK, hKn, Nat.ne_of_gt (Nat.lt_trans lo zK), fL kS (Nat.le_of_lt (Nat.lt_of_le_of_lt s0D zK)), fun v z => by cases z⟩
  have w2 : NewAt X ((f, lamObj q params body scope y cy c' pm ctv) :: pins) D := ⟨Heap.get?_none_of_le (Nat.le_trans szb zD), s0D, fun p hp => by
    rcases List.mem_append.mp hp with hp | hp
    · exact Nat.ne_of_lt (pn0 p (List.mem_append_left _ hp))
    · rcases List.mem_cons.mp hp with rfl | hp
      · exact Nat.ne_of_lt (nD _ _ hf3)
      · exact Nat.ne_of_lt (pn0 p (List.mem_append_right _ hp))⟩
  have w1 : NewAt X ((D, seqObj "list" #[] e1) :: (f, lamObj q params body scope y cy c' pm ctv) :: pins) kS := ⟨Heap.get?_none_of_le (Nat.le_trans szb (Nat.le_of_lt (Nat.lt_of_le_of_lt zD zK))), Nat.le_of_lt (Nat.lt_of_le_of_lt s0D zK), fun p hp => by
    rcases List.mem_append.mp hp with hp | hp
    · exact Nat.ne_of_lt (Nat.lt_trans (pn0 p (List.mem_append_left _ hp)) zK)
    · rcases List.mem_cons.mp hp with rfl | hp
      · exact Nat.ne_of_lt zK
      · rcases List.mem_cons.mp hp with rfl | hp
        · exact Nat.ne_of_lt (Nat.lt_trans (nD _ _ hf3) zK)
        · exact Nat.ne_of_lt (Nat.lt_trans (pn0 p (List.mem_append_right _ hp)) zK)⟩
  have lw : ws.length = n := by have := hi.length; simpa using this
  refine rest_any (h₀ := X.base) (L := X.env.locals) (m := m) oK (by omega) (keys_go (J := J) (g := g) (vy := vy) (iy := iy) S hr (List.mem_cons_of_mem _ List.mem_cons_self) (fun H' j => jc c' hc' H' j) w1 (hbind pm _ ctv) hl hy hv hkd hσ (hb f (.ref c')) hi (fun a ha H' j => ?_) [] [] 0 _ H2 .nil I7 hn j0 fun ks' e' s' H' hk I8 hn8 j8 _ => ?_)
  · obtain ⟨i, hi', rfl⟩ := List.mem_map.mp ha
    exact jb i H' (List.mem_range.mp hi') j
  · refine end_any h1 h64 hi (by simpa using hk) I8 hn8 w1 w2 fun s4 ns hp ho2 I9 hD9 => back s4 ⟨.ref D, _, I9.dropPin, rfl, jq H' D ns j8 hD9 hp ho2⟩
end
end L2
set_option Elab.async false
set_option linter.all false
set_option maxRecDepth 100000
namespace L2
open PySem PySem.Spec PyProof.Rows PySem.W
def exc (P : Addr) (H : Hp) : Hp := fun b => if b = P then none else H b
theorem exc_ne {P b : Addr} {H : Hp} (h : b ≠ P) : exc P H b = H b := if_neg h
theorem exc_at {P : Addr} {H : Hp} : exc P H P = none := if_pos rfl
theorem exc_some {P b : Addr} {H : Hp} {o : HO} (h : exc P H b = some o) : b ≠ P ∧ H b = some o := by
  by_cases hb : b = P
  · subst hb; rw [exc_at] at h; cases h
  · rw [exc_ne hb] at h; exact ⟨hb, h⟩
def TblI (lp : Pos) (q : Str) (P : Addr) (H : Hp) : Prop := ∃ ps, H P = some (.tbl ps) ∧ TblOk lp q H ps
theorem TblI.same {lp : Pos} {q : Str} {P : Addr} {H H' : Hp} (h : TblI lp q P H) (s : Same H H') : TblI lp q P H' := by
  obtain ⟨ps, h1, h2⟩ := h
  refine ⟨ps, s _ _ h1, ?_⟩
  rcases h2 with h2 | ⟨c, h2, h3⟩
  · exact .inl h2
  · exact .inr ⟨c, h2, s _ _ h3⟩
theorem TblI.back {lp : Pos} {q : Str} {P : Addr} {R H : Hp} (h : TblI lp q P H) (w : Wd R H) : TblI lp q P R := by
  obtain ⟨ps, h1, h2⟩ := h
  refine ⟨ps, w.back h1 fun z => z, ?_⟩
  rcases h2 with h2 | ⟨c, h2, h3⟩
  · exact .inl h2
  · exact .inr ⟨c, h2, w.back h3 fun z => z⟩
theorem TblI.step {lp : Pos} {q : Str} {P : Addr} {H H' : Hp} (h : LStep lp q P H H') : TblI lp q P H' := by
  rcases h with ⟨rfl, h⟩ | ⟨c, hc, ⟨ps, hp⟩, rfl⟩
  · exact h
  · have hp : P ≠ c := fun z => by rw [z, hc] at hp; cases hp
    exact ⟨_, by rw [upd_ne hp, upd_same], .inr ⟨c, rfl, upd_same⟩⟩
def SameN (H H' : Hp) : Prop := ∀ b o, H b = some o → (∀ ps, o ≠ .tbl ps) → H' b = some o
mutual
theorem Rp.sameN {K : PySem.W.Frag} {H H' : Hp} (s : SameN H H') : ∀ {v : V} {d : PyData}, Rp K H v d → Rp K H' v d
  | _, _, .non => .non
  | _, _, .bl b => .bl b
  | _, _, .int i => .int i
  | _, _, .str x => .str x
  | _, _, .lst h r => .lst (s _ _ h (by intro _ z; cases z)) (RpAll.sameN s r)
  | _, _, .tup h r => .tup (s _ _ h (by intro _ z; cases z)) (RpAll.sameN s r)
  | _, _, .scr h => .scr (by
      rcases h with (h | ⟨o, h⟩) | h
      · exact .inl (.inl (s _ _ h (by intro _ z; cases z)))
      · exact .inl (.inr ⟨o, s _ _ h (by intro _ z; cases z)⟩)
      · exact .inr h)
  | _, _, .any => .any
  | _, _, .xc h => .xc (s _ _ h (by intro _ z; cases z))
theorem RpAll.sameN {K : PySem.W.Frag} {H H' : Hp} (s : SameN H H') : ∀ {vs : List V} {ds : List PyData}, RpAll K H vs ds → RpAll K H' vs ds
  | _, _, .nil => .nil
  | _, _, .cons a r => .cons (Rp.sameN s a) (RpAll.sameN s r)
end
theorem exc_sameN {P : Addr} {H : Hp} {ps : Array Value} (h : H P = some (.tbl ps)) : SameN H (exc P H) := fun b o e n => by
  rw [exc_ne (fun z => by rw [z, h] at e; cases e; exact n ps rfl)]; exact e
theorem exc_same {P : Addr} {H : Hp} : Same (exc P H) H := fun b o e => (exc_some e).2
section
variable {He : Hp} {K : PySem.W.Frag} {H0 R H R' H' : Hp} {σ : St} {env : List Dt} {P : Addr} {ps : Array Value}
theorem OwnR.exc {ys : List V} {xss : List (List PyData)} (h : OwnR K H0 R H ys xss) (hR : R P = some (.tbl ps)) : OwnR K H0 (exc P R) (exc P H) ys xss :=
  Paired.mapP h fun _ _ ⟨b, zs, h1, h2, h3, h4, h5⟩ => by
    have nb : b ≠ P := fun z => by rw [z, hR] at h3; cases h3
    exact ⟨b, zs, h1, by rw [exc_ne nb]; exact h2, by rw [exc_ne nb]; exact h3, h4, RpAll.sameN (exc_sameN hR) h5⟩
theorem KvR.exc {κ : Type} {l : List (κ × V)} {m : List (κ × PyData)} (h : KvR K R l m) (hR : R P = some (.tbl ps)) : KvR K (exc P R) l m := Paired.mapP h fun _ _ z => ⟨z.1, Rp.sameN (exc_sameN hR) z.2⟩
theorem SlotR.exc {x : Option V} {d : Dt} (h : SlotR K H0 R H x d) (hR : R P = some (.tbl ps)) : SlotR K H0 (exc P R) (exc P H) x d := by
  have nb : ∀ a, R a = none → a ≠ P := fun a h z => by rw [z, hR] at h; cases h
  cases d with
  | un => cases x <;> trivial
  | d y => cases x with
    | none => exact h
    | some v => exact Rp.sameN (exc_sameN hR) h
  | o xs => cases x with
    | none => exact h
    | some v => obtain ⟨a, ys, h1, h2, h3, h4, h5⟩ := h; exact ⟨a, ys, h1, by rw [exc_ne (nb a h3)]; exact h2, by rw [exc_ne (nb a h3)]; exact h3, h4, RpAll.sameN (exc_sameN hR) h5⟩
  | dk xs => cases x with
    | none => exact h
    | some v => obtain ⟨a, ys, h1, h2, h3, h4, h5⟩ := h; exact ⟨a, ys, h1, by rw [exc_ne (nb a h3)]; exact h2, by rw [exc_ne (nb a h3)]; exact h3, h4, KvR.exc h5 hR⟩
  | dt xs => cases x with
    | none => exact h
    | some v => obtain ⟨a, ys, h1, h2, h3, h4, h5⟩ := h; exact ⟨a, ys, h1, by rw [exc_ne (nb a h3)]; exact h2, by rw [exc_ne (nb a h3)]; exact h3, h4, KvR.exc h5 hR⟩
  | oo xs => cases x with
    | none => exact h
    | some v => obtain ⟨a, ys, h1, h2, h3, h4, h5, h6⟩ := h; exact ⟨a, ys, h1, by rw [exc_ne (nb a h3)]; exact h2, by rw [exc_ne (nb a h3)]; exact h3, h4, h5.exc hR, h6⟩
theorem Ext.exc0 (e : Ext H0 H0 R H) (h0 : H0 P = none) : Ext H0 H0 (exc P R) (exc P H) := by
  have nb : ∀ b o, H0 b = some o → b ≠ P := fun b o h z => by rw [z, h0] at h; cases h
  refine ⟨fun b o h => by rw [exc_ne (nb b o h)]; exact e.hh b o h, fun b o h => by rw [exc_ne (nb b o h)]; exact e.rr b o h, fun b o h => ?_, fun b o h n => (by rw [h] at n; cases n), fun b o h n => ?_⟩
  · obtain ⟨n, h⟩ := exc_some h
    rw [exc_ne n]; exact e.rh b o h
  · obtain ⟨m, h⟩ := exc_some h
    rw [exc_ne m] at n; exact e.ls b o h n
theorem Fra.nextT (f : Fra He K H0 R H σ env) (h0 : H0 P = none) (hR : R P = some (.tbl ps)) (e : Ext (exc P R) (exc P H) R' H') : Fra He K H0 R' H' σ env := by
  have hx : ∀ (i : Nat) (d : Dt) (b : Addr), env[i]? = some d → d.has H' (σ[i]?).join b → d.has H (σ[i]?).join b := fun i d b hi hb =>
    (f.slot i d hi).hasNext (H' := exc P H) (fun a ys hs z => by
      by_cases na : a = P
      · have := f.wd.rh P _ hR
        rw [na, this] at z; cases z
      · rw [exc_ne na]; exact z) (((f.slot i d hi).exc hR).hasNext (fun a ys _ z => e.hh a _ z) hb)
  exact ⟨f.at0, (f.ext.exc0 h0).trans e, f.len, fun i d h => ((f.slot i d h).exc hR).next e, fun i j di dj b hi hj bi bj => f.apart i j di dj b hi hj (hx i di b hi bi) (hx j dj b hj bj)⟩
end
def spT (lp : Pos) (q : Str) (T : Addr) (K : PySem.W.Frag) (P : List PyData → (Dt → Prop) → Prop) : Sp := fun vs H Q _ => ∃ ds RS, TblI lp q T H ∧ RpAll K H vs ds ∧ P ds RS ∧ ∀ dt v R' H', RS dt → TblI lp q T H' → Ext (exc T H) (exc T H) R' H' → SlotR K (exc T H) R' H' (some v) dt → Q v H'
section
variable {X : Cx} {k : Nat} {f : Addr} {fd : FuncData} {ps : List Str} {x : Str} {p pos : Pos} {e : Expr} {es : List Expr} {t : TA} {K : PySem.W.Frag} {P : List PyData → (Dt → Prop) → Prop} {lp : Pos} {q : Str} {T : Addr}
theorem run_fnT {pins : List (Addr × Obj)} {σ : St} {R H : Hp} {s : Shared} {Q : VK} {us : List Value} {vs : List V} {ds : List PyData} {RS : Dt → Prop} (hK : X.K = K) (F : FnOk X.prog X.w X.K X.mg X.base CX0 k f fd ps (spT lp q T K P)) (hr : Room k X.A) (hb : Binds X.K fd ps [])
    (I : Inv X pins σ H s) (r : Vals vs us) (w : Wd R H) (ht : TblI lp q T H) (hv : RpAll K R vs ds) (hp : P ds RS) (kk : ∀ dt v R' H', RS dt → TblI lp q T H' → Ext (exc T R) (exc T H) R' H' → SlotR K (exc T H) R' H' (some v) dt → Q v H') :
    wpAny (model X.prog X.w) X.A (call (.ref f) us) (EP X pins σ Q) X.xe s := by
  have hsp : spT lp q T K P vs R (fun v H1 => ∃ dt R', RS dt ∧ TblI lp q T H1 ∧ Ext (exc T R) (exc T R) R' H1 ∧ SlotR K (exc T R) R' H1 (some v) dt) E0 := ⟨ds, RS, ht.back w, hv, hp, fun dt v R' H' a b c d => ⟨dt, R', a, b, c, d⟩⟩
  have hl : us.length = ps.length := by rw [← r.length]; exact F.len _ _ _ _ hsp
  have e0 : Env0 X.prog X.w X.K X.mg X.base X.A X.stack s R := by
    have e := I.env0
    refine ⟨e.frames, e.mod, fun b o z => ⟨(e.bs b o z).1, w.rh.free (e.bs b o z).2⟩, e.bsz, e.funs, fun b hb => w.rh.free (e.frf b hb), fun a o z => ?_, e.bare⟩
    exact (e.hok a o (w.rh a o z)).stay (fun b u _ q => q) (fun b q => w.back q fun z => z) fun b xs q => w.back q fun z => z
  refine wpAny_call (codeAny_mono (F.run X.A X.stack s R ⟨us, []⟩ us vs _ E0 hr e0 (by have := hb s us I.kIn (by rw [List.append_nil]; exact hl); rw [List.append_nil] at this; exact this) r hsp) fun r s' hq => ?_)
  cases r with
  | error e => exact hq.elim
  | ok fl =>
    cases fl with
    | next => exact False.elim hq
    | brk => exact False.elim hq
    | cont => exact False.elim hq
    | ret u =>
      obtain ⟨v, H1, os, bare, un, hok, rv, dt, R', hRS, ti, ext, slot⟩ := hq
      obtain ⟨H2, gone, eA, eB, eN, eX, un2, hok2⟩ := merge I w un hok
      have sB : Same H1 H2 := fun b o z => eB b o z
      have hRT : ∃ pt, R T = some (.tbl pt) := by obtain ⟨pt, z, _⟩ := ht.back w; exact ⟨pt, z⟩
      obtain ⟨pt, hRT⟩ := hRT
      have ex2 : Ext (exc T R) (exc T H) R' H2 := by
        refine ⟨fun b o z => ?_, ext.rr, fun b o z => eB b o (ext.rh b o z), fun b o z n => ?_, fun b o z n => ?_⟩
        · obtain ⟨nT, z⟩ := exc_some z
          cases qq : R b with
          | none => rw [eA b qq (by rw [z]; intro y; cases y)]; exact z
          | some u =>
            have := w.rh b u qq
            rw [z] at this; cases this
            exact eB b o (ext.hh b o (by rw [exc_ne nT]; exact qq))
        · obtain ⟨nT, z⟩ := exc_some z
          rw [exc_ne nT] at n
          cases qq : R' b with
          | none => rfl
          | some u => have := ext.rh b u qq; rw [gone b o z n] at this; cases this
        · rcases eX b o z with ⟨n2, z2⟩ | z2
          · exact w.ls b o z2 n2
          · exact ext.ls b o z2 n
      have slot2 : SlotR K (exc T H) R' H2 (some v) dt := by
        have own : ∀ a o, H1 a = some o → exc T R a = none → exc T H a = none := fun a o z n => by
          by_cases nT : a = T
          · rw [nT]; exact exc_at
          · rw [exc_ne nT] at n ⊢
            cases qq : H a with
            | none => rfl
            | some u => rw [gone a u qq n] at z; cases z
        cases dt with
        | un => trivial
        | d y => exact slot
        | o xs => obtain ⟨a, ys, h1, h2, h3, h4, h5⟩ := slot; exact ⟨a, ys, h1, eB a _ h2, h3, own a _ h2 h4, h5⟩
        | dk xs => obtain ⟨a, ys, h1, h2, h3, h4, h5⟩ := slot; exact ⟨a, ys, h1, eB a _ h2, h3, own a _ h2 h4, h5⟩
        | dt xs => obtain ⟨a, ys, h1, h2, h3, h4, h5⟩ := slot; exact ⟨a, ys, h1, eB a _ h2, h3, own a _ h2 h4, h5⟩
        | oo xs => obtain ⟨a, ys, h1, h2, h3, h4, h5, h6⟩ := slot; exact ⟨a, ys, h1, eB a _ h2, h3, own a _ h2 h4, Paired.mapP h5 fun _ _ ⟨b, zs, k1, k2, k3, k4, k5⟩ => ⟨b, zs, k1, eB b _ k2, k3, own b _ k2 k4, k5⟩, h6⟩
      exact I.after (Q := Q) ⟨v, H2, os, bare, un2, hok2, rv, kk dt v R' H2 hRS (ti.same sB) ex2 slot2⟩
def FnT (pr : Program) (w : World) (K : PySem.W.Frag) (mg : Str → Option Value) (base : Heap) (x : Str) (lvl : Nat) (ps : List Str) (lp : Pos) (q : Str) (T : Addr) (Pm : List PyData → (Dt → Prop) → Prop) : Prop :=
  ∃ f fd, FnOk pr w K mg base CX0 lvl f fd ps (spT lp q T K Pm) ∧ mg x = some (.ref f) ∧ PySem.W.keepIn K (.ref f) = true ∧ Binds K fd ps []
def tFnT (lp : Pos) (q : Str) (T : Addr) (K : PySem.W.Frag) (P : List PyData → (Dt → Prop) → Prop) (t : TA) : TE := fun σ H Q => t σ H fun vs H1 => ∃ R ds RS, Wd R H1 ∧ TblI lp q T H1 ∧ RpAll K R vs ds ∧ P ds RS ∧ ∀ dt v R' H', RS dt → TblI lp q T H' → Ext (exc T R) (exc T H1) R' H' → SlotR K (exc T H1) R' H' (some v) dt → Q v H'
theorem pe_fnT (G : FnT X.prog X.w X.K X.mg X.base x k ps lp q T P) (hr : Room k X.A) (ha : PA X (e :: es) t) (hK : autoParam (X.K = K) u5._auto_1) (hg : autoParam (Gl X x) u5._auto_1)
    (hdb : autoParam ((x == ("__debug__" : Str)) = false) u2._auto_1) (he : autoParam (starEach (e :: es) X.env = (false, eval e X.env) :: starEach es X.env) u5._auto_1) (hpl : autoParam ((backTo pos (starEach es X.env)).any (·.1) = false) u5._auto_1) :
    PE X (.Call (.Name x p) (e :: es) [] pos) (tFnT lp q T K P t) := by
  obtain ⟨f, fd, F, hm, hk, hb⟩ := G
  intro pins s σ H Q I h
  subst hK
  refine wpAny_Call_Name_kw (ld_glob I hg hm ?_ hdb)
  refine PySem.W.callWith_K (h₀ := X.base) I.ok.mod.kin hk (thn (ha pos pins s σ H _ I h) fun us s1 ⟨vs, H1, I1, r, z⟩ => ⟨I1.kIn, ?_⟩) he hpl
  obtain ⟨R, ds, RS, w, ti, hv, hp, kk⟩ := z
  exact run_fnT rfl F hr hb I1 r w ti hv hp kk
end
section
variable {He : Hp} {K : PySem.W.Frag} {H0 R H R' H' : Hp} {σ σ' : St} {env env' : List Dt}
theorem Fra.re (f : Fra He K H0 R H σ env) : Fra He K R R H σ env := by
  refine ⟨f.at0.trans f.ext.rr, ⟨f.wd.rh, Same.refl R, f.wd.rh, fun b o e n => (by rw [e] at n; cases n), f.wd.ls⟩, f.len, fun i d h => ?_, f.apart⟩
  have s := f.slot i d h
  cases d with
  | un => cases (σ[i]?).join <;> trivial
  | d y => cases q : (σ[i]?).join with
    | none => rw [q] at s; exact s
    | some v => rw [q] at s; exact s
  | o xs => cases q : (σ[i]?).join with
    | none => rw [q] at s; exact s
    | some v => rw [q] at s; obtain ⟨a, ys, h1, h2, h3, h4, h5⟩ := s; exact ⟨a, ys, h1, h2, h3, h3, h5⟩
  | dk xs => cases q : (σ[i]?).join with
    | none => rw [q] at s; exact s
    | some v => rw [q] at s; obtain ⟨a, ys, h1, h2, h3, h4, h5⟩ := s; exact ⟨a, ys, h1, h2, h3, h3, h5⟩
  | dt xs => cases q : (σ[i]?).join with
    | none => rw [q] at s; exact s
    | some v => rw [q] at s; obtain ⟨a, ys, h1, h2, h3, h4, h5⟩ := s; exact ⟨a, ys, h1, h2, h3, h3, h5⟩
  | oo xs => cases q : (σ[i]?).join with
    | none => rw [q] at s; exact s
    | some v => rw [q] at s; obtain ⟨a, ys, h1, h2, h3, h4, h5, h6⟩ := s; exact ⟨a, ys, h1, h2, h3, h3, Paired.mapP h5 fun _ _ ⟨b, zs, k1, k2, k3, k4, k5⟩ => ⟨b, zs, k1, k2, k3, k3, k5⟩, h6⟩
theorem Ext.unre (e : Ext H0 H0 R H) (e' : Ext R R R' H') : Ext H0 H0 R' H' := ⟨e.rr.trans e'.hh, e.rr.trans e'.rr, e'.rh, fun b o h n => (by rw [h] at n; cases n), e'.ls⟩
theorem Fra.unre (f : Fra He K H0 R H σ env) (g : Fra He K R R' H' σ' env') : Fra He K H0 R' H' σ' env' := ⟨f.at0, f.ext.unre g.ext, g.len, fun i d h => (g.slot i d h).old f.ext.rr, g.apart⟩
end
theorem exc_keep {R0 R R' : Hp} {T : Addr} (s : Same R0 R) (h : R0 T = none) (e : Same (exc T R) R') : Same R0 R' := fun b o z => e b o (by rw [exc_ne (fun w => by rw [w, h] at z; cases z)]; exact s b o z)
structure CovT (lp : Pos) (q : Str) (T : Addr) (He : Hp) (K : PySem.W.Frag) (H0 R0 : Hp) (D : DEnds) (E : Ends) : Prop where
  nx : ∀ env' R' H' σ', D.nx env' → TblI lp q T H' → Same R0 R' → Fra He K H0 R' H' σ' env' → E.nx σ' H'
  rt : ∀ dt v R' H', D.rt dt → TblI lp q T H' → Ext H0 H0 R' H' → SlotR K H0 R' H' (some v) dt → E.rt v H'
  bk : ∀ env', ¬ D.bk env'
  ct : ∀ env', ¬ D.ct env'
def DST (lp : Pos) (q : Str) (T : Addr) (He : Hp) (K : PySem.W.Frag) {ι : Type} (Y : ι → Cx) (st : Stmt) (t : Ds) : Prop := ∃ ts : TS, (∀ i, PS (Y i) st ts) ∧ ∀ {H0 R0 R H : Hp} {σ : St} {env : List Dt} (D : DEnds) (E : Ends), Fra He K H0 R H σ env → H0 T = none → R0 T = none → Same R0 R → TblI lp q T H → CovT lp q T He K H0 R0 D E → t D env → ts E σ H
def DSsT (lp : Pos) (q : Str) (T : Addr) (He : Hp) (K : PySem.W.Frag) {ι : Type} (Y : ι → Cx) (st : List Stmt) (t : Ds) : Prop := ∃ ts : TS, (∀ i, PSs (Y i) st ts) ∧ ∀ {H0 R0 R H : Hp} {σ : St} {env : List Dt} (D : DEnds) (E : Ends), Fra He K H0 R H σ env → H0 T = none → R0 T = none → Same R0 R → TblI lp q T H → CovT lp q T He K H0 R0 D E → t D env → ts E σ H
section
variable {lp : Pos} {q : Str} {T : Addr} {He : Hp} {K : PySem.W.Frag} {ι : Type} {Y : ι → Cx} {st : Stmt} {rest : List Stmt} {e : Expr} {es : List Expr} {pos p : Pos}
theorem CovT.cov {H0 R0 R H : Hp} {σ : St} {env : List Dt} {D : DEnds} {E : Ends} (c : CovT lp q T He K H0 R0 D E) (F : Fra He K H0 R H σ env) (s0 : Same R0 R) (ti : TblI lp q T H) : Cov He K R R D E :=
  ⟨fun env' R' H' σ' d s F' => c.nx env' R' H' σ' d (((ti.back F.wd).same s).same F'.wd.rh) (s0.trans s) (F.unre F'), fun dt v R' H' d e s => c.rt dt v R' H' d ((ti.back F.wd).same e.hh) (F.ext.unre e) (s.old F.ext.rr), fun env' _ _ _ z => (c.bk env' z).elim, fun env' _ _ _ z => (c.ct env' z).elim⟩
theorem DS.toT {t : Ds} (h : DS He K Y st t) : DST lp q T He K Y st t := by
  obtain ⟨ts, h1, h2⟩ := h
  exact ⟨ts, h1, fun D E F h0 h0' s0 ti c p => h2 D E F.re (Same.refl _) (c.cov F s0 ti) p⟩
theorem DSs.toT {t : Ds} (h : DSs He K Y rest t) : DSsT lp q T He K Y rest t := by
  obtain ⟨ts, h1, h2⟩ := h
  exact ⟨ts, h1, fun D E F h0 h0' s0 ti c p => h2 D E F.re (Same.refl _) (c.cov F s0 ti) p⟩
theorem dssT_cons {t u : Ds} (h : DST lp q T He K Y st t) (h' : DSsT lp q T He K Y rest u) : DSsT lp q T He K Y (st :: rest) (sSeq t u) := by
  obtain ⟨a, a1, a2⟩ := h
  obtain ⟨b, b1, b2⟩ := h'
  exact ⟨_, fun i => pss_cons (a1 i) (b1 i), fun D E F h0 h0' s0 ti c p => a2 { D with nx := u D } _ F h0 h0' s0 ti ⟨fun env' R' H' σ' z ti' s' F' => b2 D E F' h0 h0' s' ti' c z, c.rt, c.bk, c.ct⟩ p⟩
theorem dssT_one {t : Ds} (h : DST lp q T He K Y st t) : DSsT lp q T He K Y [st] t := by
  obtain ⟨a, a1, a2⟩ := h
  exact ⟨_, fun i => pss_one (a1 i), a2⟩
theorem TblI.at {R : Hp} (h : TblI lp q T R) : ∃ ps, R T = some (.tbl ps) := by
  obtain ⟨ps, z, _⟩ := h; exact ⟨ps, z⟩
variable {prog : Program} {w : World} {mg : Str → Option Value} {base : Heap} {x : Str} {k : Nat} {ps : List Str} {P : List PyData → (Dt → Prop) → Prop} {t : Dq}
def sForT (P : List PyData → (Dt → Prop) → Prop) (t : Dq) (g : Dg) (tb : Ds) : Ds := fun D env => t env fun ds => P ds fun dt => ∃ l, dt = .o l ∧ ∃ I : Nat → List Dt → Prop, I 0 env ∧
  (∀ (k : Nat) (y : PyData) (env1 : List Dt), l[k]? = some y → I k env1 → g y env1 fun env2 => tb { nx := I (k + 1), rt := D.rt, bk := D.nx, ct := I (k + 1) } env2) ∧ ∀ env1, I l.length env1 → D.nx env1
theorem dsT_for {tg : Expr} {ts : List Nat} {g : Dg} {tb : Ds} {body : List Stmt} {cp : Pos} (hp : ∀ i, PassesOwn (model (Y i).prog (Y i).w) (Y i).A (Y i).env (Y i).xe) (G : FnT prog w K mg base x k ps lp q T P) (hr : ∀ i, Room k (Y i).A) (ha : DA He K Y (e :: es) t) (hg' : DG He K Y tg ts g) (hb : DSs He K Y body tb) (hc : autoParam (∀ i, (Y i).calm = true) u4._auto_1)
    (hX : autoParam (∀ i, (Y i).prog = prog ∧ (Y i).w = w ∧ (Y i).K = K ∧ (Y i).mg = mg ∧ (Y i).base = base) u12._auto_1) (hg : autoParam (∀ i, Gl (Y i) x) u4._auto_1)
    (hdb : autoParam ((x == ("__debug__" : Str)) = false) u2._auto_1) (he : autoParam (∀ i, starEach (e :: es) (Y i).env = (false, eval e (Y i).env) :: starEach es (Y i).env) u4._auto_1) (hpl : autoParam (∀ i, (backTo cp (starEach es (Y i).env)).any (·.1) = false) u4._auto_1)
    (hs : autoParam (∀ i z, foldedSetIterable (.Call (.Name x p) (e :: es) [] cp) (Y i).env z = pure z) u11._auto_1) : DST lp q T He K Y (.For tg (.Call (.Name x p) (e :: es) [] cp) body [] pos) (sForT P t g tb) := by
  obtain ⟨te, h1, h2⟩ := ha
  obtain ⟨gt, g1, g2⟩ := hg'
  obtain ⟨bt, b1, b2⟩ := hb
  have pcall : ∀ j, PE (Y j) (.Call (.Name x p) (e :: es) [] cp) (tFnT lp q T K P te) := fun j => by
    obtain ⟨a1, a2, a3, a4, a5⟩ := hX j
    subst a1 a2 a3 a4 a5
    exact pe_fnT G (hr j) (h1 j) rfl (hg j) hdb (he j) (hpl j)
  refine ⟨_, fun j => ps_for (hp j) (hc j) (pi_seqZ K (pcall j) (hX j).2.2.1) (g1 j) (b1 j) (hs j), fun {H0 R0 R H σ env} D E F h0 h0' s0 ti c pp => h2 _ _ F pp fun ds vs R1 H1 q1 e1 r1 => ⟨R1, ds, _, e1.wd, ti.same e1.hh, r1, q1, fun dt v R' H' ⟨l, hl, I, i0, is, id⟩ ti' ex sl => ?_⟩⟩
  subst hl
  obtain ⟨pt, hRT⟩ := ((ti.same e1.hh).back e1.wd).at
  obtain ⟨a, ys, rfl, h5, h6, h7, h8⟩ := sl
  obtain ⟨R2, ex2, sm, at2⟩ := ex.give (fun b => b = a) fun b z => by rw [z]; exact h7
  have F2 := (F.next e1).nextT h0 hRT ex2
  have ra : R2 a = some (.lst ys) := by rw [at2 a rfl]; exact h5
  refine ⟨a, ys, rfl, .inl ⟨SqL.of h5, fun hz => ?_⟩⟩
  have yd := yld_list (K := K) (SqL.of ra) (RpAll.same sm h8)
  have cv := c.cov F2 (exc_keep (s0.trans e1.rr) h0' ex2.rr) ti'
  refine ⟨fun i m σ2 H2 => m = l.length - i ∧ i ≤ l.length ∧ ∃ R3 env2, Fra He K R2 R3 H2 σ2 env2 ∧ Same R2 R3 ∧ I i env2, ⟨l.length, by simp, Nat.zero_le _, R2, env, F2.re, Same.refl R2, i0⟩, ?_⟩
  rintro i m σ2 H2 ⟨rfl, hi', R3, env2, F3, s3, p3⟩
  by_cases hlt : i < l.length
  · refine .inr ⟨yd.go R3 H2 i s3 F3.wd hlt, fun σ' H' => ∃ R2' env2, Fra He K R2 R2' H' σ' env2 ∧ Same R2 R2' ∧ I (i + 1) env2, fun σ' H' n' => ⟨l.length - (i + 1), by omega, rfl, hlt, n'⟩, fun z H4 y => ?_⟩
    have hd' : l[i]? = some l[i] := by simp [hlt]
    obtain ⟨R4, e4, r4⟩ := yd.yl R3 H2 i l[i] z H4 s3 F3.wd hd' y
    refine g2 _ _ (F3.next e4) r4 (is i l[i] env2 hd' p3) fun env5 σ5 p5 F5 _ => ?_
    refine b2 (R0 := R2) { nx := I (i + 1), rt := D.rt, bk := D.nx, ct := I (i + 1) } _ F5 (s3.trans e4.rr) ⟨fun env' R' H' σ' z s' F' => ⟨R', env', F', s', z⟩, cv.rt, fun env' R' H' σ' z s' F' => cv.nx _ _ _ _ z s' F', fun env' R' H' σ' z s' F' => ⟨R', env', F', s', z⟩⟩ p5
  · have e : i = l.length := by omega
    subst e
    exact .inl ⟨yd.st R3 H2 s3 F3.wd, cv.nx _ _ _ _ (id env2 p3) s3 F3⟩
end
end L2
set_option Elab.async false
set_option linter.all false
set_option maxRecDepth 100000
namespace L2
open PySem PySem.Spec PyProof.Rows PySem.W
theorem LStep.keep {lp : Pos} {q : Str} {T : Addr} {H H' : Hp} (h : LStep lp q T H H') : ∀ b o, b ≠ T → H b = some o → H' b = some o := fun b o n e => by
  rcases h with ⟨rfl, _⟩ | ⟨c, hc, _, rfl⟩
  · exact e
  · rw [upd_ne (ne_of_none e hc), upd_ne n]; exact e
theorem LStep.sameN {lp : Pos} {q : Str} {T : Addr} {H H' : Hp} {ps : Array Value} (h : LStep lp q T H H') (hT : H T = some (.tbl ps)) : SameN H H' := fun b o e n => h.keep b o (fun z => by rw [z, hT] at e; cases e; exact n ps rfl) e
abbrev LIx (ι : Type) := ι × Addr × Value × Around × List Env × Shared × Hp
abbrev Yl {ι : Type} (Y : ι → Cx) (k : Nat) (q x y : Str) (scope : Scope) (cy : ι → Addr) : { z : LIx ι // Room k (z.2.2.2.1.deeper (envX q scope z.2.2.2.2.2.1.heap.objs.size z.2.1 z.2.2.1 [(y, cy z.1)])) } → Cx := fun z =>
  cxLam (Y z.1.1).prog (Y z.1.1).w (Y z.1.1).K (Y z.1.1).mg (Y z.1.1).base [x, y] q scope z.1.2.1 z.1.2.2.1 [(y, cy z.1.1)] z.1.2.2.2.1 z.1.2.2.2.2.1 z.1.2.2.2.2.2.1 z.1.2.2.2.2.2.2
section
variable {lp : Pos} {q x y : Str} {T c : Addr} {He : Hp} {K : PySem.W.Frag} {ι : Type} {Y : ι → Cx} {e body : Expr} {pos p p2 p3 kp rp : Pos} {params : Arguments} {scope : Scope} {k iy : Nat} {cy : ι → Addr}
def sRetL (iy : Nat) (ta : Dq) (tb : De) : Ds := fun D env => ta env fun ds => ∃ (n : Nat) (dy : PyData) (g : Int → Int), ds = [.int n] ∧ 1 ≤ n ∧ n < 64 ∧ env[iy]? = some (.d dy) ∧ (∀ i : Nat, i < n → tb [.d (.int i), .d dy] fun v => v = .int (g i)) ∧
  ∀ ns : List Int, ns.Perm ((List.range n).map Int.ofNat) → ns.Pairwise (fun a b => g a ≤ g b) → D.rt (.o (ns.map PyData.int))
theorem dsT_retLam {ta : Dq} {tb : De} (S : LamSc x y scope) (ha : DA He K Y [e] ta) (hb : DE (fun _ => none) K (Yl Y k q x y scope cy) body tb) (hr : ∀ j, Room (k + 1) (Y j).A.in1.in1) (hcode : ∀ j, (Y j).env.code = .ref c) (C : ∀ j, CodeHd (Y j).base c T) (bm : ∀ j, BMod (Y j).base (Y j).mg)
    (hms : ∀ j, (Y j).mg "sorted" = none) (hmr : ∀ j, (Y j).mg "range" = none) (hq : ∀ j, (Y j).env.qual ++ "<lambda>" = q) (hcl : ∀ j, closureFor scope (Y j).env = pure [(y, cy j)]) (hl : ∀ j, (Y j).env.cells.lookup y = some (cy j)) (hy : ∀ j, (Y j).N[iy]? = some y) (hkd : ∀ j, (Y j).env.kindOf y = some .cell ∨ (Y j).env.kindOf y = some .free)
    (hbind : ∀ (a : Addr) (pm cd ctv u : Value), bindArgs (kla_fn "<lambda>" q params body scope [(y, a)] pm cd ctv) ⟨[u], []⟩ = pure [(x, u)]) (hdef : ∀ j, defaultsOf params (Y j).env = ([], [])) (hgs : ∀ j, Gl (Y j) "sorted") (hgr : ∀ j, Gl (Y j) "range")
    (hs1 : ∀ j, starEach [e] (Y j).env = [(false, eval e (Y j).env)]) (hs2 : ∀ j, starEach [.Call (.Name "range" p2) [e] [] p3] (Y j).env = [(false, eval (.Call (.Name "range" p2) [e] [] p3) (Y j).env)]) :
    DST lp q T He K Y (.Return (some (.Call (.Name "sorted" p) [.Call (.Name "range" p2) [e] [] p3] [⟨some "key", .Lambda params body scope lp, kp⟩] pos)) rp) (sRetL iy ta tb) := by
  obtain ⟨te, a1, a2⟩ := ha
  obtain ⟨tl, b1, b2⟩ := hb
  refine ⟨_, fun j => ps_ret (pe_sortLam (P := T) (iy := iy) (tb := tl) S (a1 j) (hr j) (hcode j) (C j) (bm j) (hq j) (hms j) (hmr j) (hcl j) (hl j) (hy j) (hkd j) (hbind (cy j)) (fun f cd A outer s H rm => b1 ⟨(j, f, cd, A, outer, s, H), rm⟩) (hdef j) (hgs j) (hgr j) (hs1 j) (hs2 j)), fun {H0 R0 R H σ env} D E F h0 _ _ ti cv pp => a2 _ _ F pp fun ds vs R1 H1 ⟨n, dy, g, hd, n1, n2, hy', hg, fin⟩ e1 r1 => ?_⟩
  subst hd
  have F1 := F.next e1
  obtain ⟨vy, hvy, ry⟩ := F1.data hy'
  have ti1 := ti.same e1.hh
  obtain ⟨ps, hP, hT⟩ := id ti1
  have ev : vs = [.int n] := by
    cases r1 with
    | cons a r => cases r; rw [a.int_inv]
  refine ⟨n, vy, ps, ev, n1, n2, hvy, hP, hT, fun H2 ls => ⟨fun H3 => Same H2 H3, g, Same.refl H2, fun i H3 hi s3 => ?_, fun c' hc' H3 s3 => s3 _ _ hc', fun H3 Da ns s3 hD hp ho => ?_⟩⟩
  · have ry2 : Rp K H3 vy dy := Rp.same s3 (Rp.sameN (ls.sameN hP) (Rp.same F1.wd.rh ry))
    have F3 : Fra (fun _ => none) K H3 H3 H3 [some (.int i), some vy] [.d (.int i), .d dy] := Fra.begin (N := [x, y]) (vs := [.int i, vy]) (ds := [.int i, dy]) (fun b o z => by cases z) (.cons (.int i) (.cons ry2 .nil))
    exact b2 _ _ F3 (hg i hi) fun d v R' H' pd ex r => ⟨by rw [pd] at r; exact r.int_inv, s3.trans ex.hh⟩
  · have k0 : Same H0 H3 := fun b o z => s3 _ _ (ls.keep b o (fun w => by rw [w, h0] at z; cases z) (F1.ext.hh b o z))
    have nw : Same H3 (upd H3 Da (.lst (ns.map V.int))) := Same.new hD
    refine cv.rt (.o (ns.map PyData.int)) _ H3 _ (fin ns hp ho) (((TblI.step ls).same s3).same nw) ⟨k0.trans nw, k0, nw, fun b o z n => (by rw [z] at n; cases n), fun b o z n => ?_⟩ ⟨Da, _, rfl, upd_same, hD, k0.free hD, RpAll.ints ns⟩
    by_cases hb : b = Da
    · subst hb; rw [upd_same] at z; cases z; trivial
    · rw [upd_ne hb, n] at z; cases z
end
theorem Fun.okP {P : Program} {w : World} {K : PySem.W.Frag} {mg : Str → Option Value} {base : Heap} {x qual : Str} {st : Stmt} {f : Addr} {fd : FuncData} {N ps : List Str} {k : Nat} {lp : Pos} {q : Str} {Tb : Addr} {Pm : List PyData → (Dt → Prop) → Prop} {T : Ds} (F : Fun K x qual st f fd) (S : FnScope N ps (defScope st)) (len : ∀ ds RS, Pm ds RS → ds.length = ps.length)
    (hT : ∀ (cdv : Value) (A : Around) (outer : List Env) (s : Shared) (H : Hp) (E : XK), fd.code = cdv → Room k (A.deeper (envOfC qual (defScope st) s.heap.objs.size f cdv)) → DSsT lp q Tb (fun _ => none) K (fun _ : Unit => (cxOf CX0 P w K mg base N qual (defScope st) f cdv A outer s H E).nox) (defBody st) T)
    (hR : ∀ ds RS, Pm ds RS → T { nx := fun _ => RS (.d .none), rt := RS } (startD N.length ds)) : FnOk P w K mg base CX0 (k + 1) f fd ps (spT lp q Tb K Pm) := by
  obtain ⟨oc, od, kV, doc, pm, an, cdv, ct, osl, rfl, lk, hcd⟩ := F.ex
  refine fn_of lk hcd S (fun vs H Q E h => ?_) fun A outer s H vs Q E hr h => ?_
  · obtain ⟨ds, RS, _, h1, h2, _⟩ := h
    rw [h1.len]
    exact len ds RS h2
  · obtain ⟨ds, RS, ti, h1, h2, k⟩ := h
    obtain ⟨ts, t1, t2⟩ := hT cdv A outer s H E rfl hr
    refine ⟨ts, (t1 ()).nox, t2 (H0 := exc Tb H) (R0 := fun _ => none) (R := H) { nx := fun _ => RS (.d .none), rt := RS } _ ?_ exc_at rfl (fun _ _ z => by cases z) ti ⟨fun env' R' H' σ' z ti' _ F' => k (.d .none) .non R' H' z ti' F'.ext Rp.non, fun dt v R' H' z ti' e sl => k dt v R' H' z ti' e sl, fun _ z => z.elim, fun _ z => z.elim⟩ (hR ds RS h2)⟩
    have B := Fra.begin (He := fun _ => none) (N := N) (fun _ _ z => by cases z) h1
    refine ⟨fun _ _ z => (by cases z), ⟨exc_same, exc_same, Same.refl H, fun b o z n => (by rw [z] at n; cases n), fun b o z n => (by rw [z] at n; cases n)⟩, B.len, fun i d h => (B.slot i d h).old exc_same, B.apart⟩
end L2
set_option Elab.async false
set_option linter.all false
set_option maxRecDepth 100000
namespace L2
open PySem PySem.Spec PyProof.Rows PySem.W
def OnlyT (T : Addr) (H : Hp) : Prop := H T = some (.tbl #[]) ∧ ∀ b, b ≠ T → H b = none ∨ ∃ o xs, H b = some (.frz o (.lst xs))
theorem law_callT {P : Program} {w : World} {K : PySem.W.Frag} {mg mb : Str → Option Value} {CX : CXT} {k : Nat} {fa a c T : Addr} {fd : FuncData} {x : Str} {sp : Sp} {s₁ : Shared} {vs : List Value} {ns : List Int}
    (KX : K.In s₁.heap) (hns : s₁.heap.Ns mainGlobals mg) (hb : s₁.heap.Ns builtinsNs mb) (hbb : ∀ x : Str, x ≠ "__name__" → mb x = bootBuiltins x) (hlim : s₁.heap.NoLimit) (hg : s₁.gens = #[])
    (ha : s₁.heap.get? a = some { cls := .type "list", data := .seq vs.toArray }) (hi : IntsAre vs ns) (hl : ns.length ≤ sizeLine) (hr : Room k callerA) (hC : CodeHd s₁.heap c T) (hT : s₁.heap.get? T = some (tabObj #[])) (hM : BMod s₁.heap mg) (hKT : K.lookup T = none)
    (F : ∀ base : Heap, K.In base → base.Ns mainGlobals mg → CodeHd base c T → BMod base mg → FnOk P w K mg base CX k fa fd [x] sp) (hbind : ∀ (s : Shared) (u : Value), BindsTo s fd ⟨[u], []⟩ [(x, u)])
    (hsp : ∀ H : Hp, OnlyT T H → SqL K H a (ns.map V.int) → sp [.ref a] H (fun v _ => v = .bl true) fun _ _ _ => False)
    (hCX : ∀ H e s', CX [] H s₁ (fun _ _ _ => False) e s' → False) :
    codeAny (model P w) callerA (.call (.ref fa) ⟨[.ref a], []⟩) (fun r s' => r = .ok (.ret (.bool true)) ∧ OldK s₁.heap s'.heap ∧ s'.os = s₁.os ∧ AllBare s'.gens) s₁ := by
  have rv := vals_ints hi
  have lenV := hi.length
  have naT : a ≠ T := fun z => by rw [z, hT] at ha; cases ha
  have core : ∀ H : Hp, OnlyT T H → SqL K H a (ns.map V.int) → HOk P w H s₁.heap → (∀ b, H b ≠ none → b = a ∨ b = T) → (H a ≠ none → K.lookup a = none) →
      codeAny (model P w) callerA (.call (.ref fa) ⟨[.ref a], []⟩) (fun r s' => r = .ok (.ret (.bool true)) ∧ OldK s₁.heap s'.heap ∧ s'.os = s₁.os ∧ AllBare s'.gens) s₁ := by
    intro H hO hS hok hA hK
    have base_of : ∀ {b : Addr} {o : Obj}, s₁.heap.get? b = some o → H b = none → (hidT s₁.heap H).get? b = some o := fun e n => hidT_get e n
    have noO : ∀ {b : Addr} {o : Obj}, s₁.heap.get? b = some o → (o.cls ≠ .none) → (∀ xs n, o.data ≠ .seq xs n) → H b = none := fun {b o} e d1 d2 => by
      cases z : H b with
      | none => rfl
      | some u =>
        rcases hA b (by rw [z]; simp) with e' | e'
        · subst e'; rw [ha] at e; cases e; exact absurd rfl (d2 _ _)
        · subst e'; rw [hT] at e; cases e; exact absurd rfl d1
    have noA : ∀ {b : Addr} {o : Obj} {es : Array DictEntry} {ep : Nat}, s₁.heap.get? b = some o → o.data = .dict es ep → H b = none := fun {b o es ep} e d => by
      cases z : H b with
      | none => rfl
      | some u =>
        rcases hA b (by rw [z]; simp) with e' | e'
        · subst e'; rw [ha] at e; cases e; cases d
        · subst e'; rw [hT] at e; cases e; cases d
    have nsK : ∀ {b : Addr} {m : Str → Option Value}, s₁.heap.Ns b m → (hidT s₁.heap H).Ns b m := fun {b m} ⟨o, es, ep, e, d, r⟩ => ⟨o, es, ep, base_of e (noA e d), d, r⟩
    have hKb : K.In (hidT s₁.heap H) := fun b o e => base_of (KX b o e) (by
      cases z : H b with
      | none => rfl
      | some u =>
        rcases hA b (by rw [z]; simp) with e' | e'
        · subst e'; rw [hK (by rw [z]; simp)] at e; cases e
        · subst e'; rw [hKT] at e; cases e)
    have hMd : Mod K mg (hidT s₁.heap H) := ⟨hKb, nsK hns, ⟨mb, nsK hb, hbb⟩, let ⟨mc, h1, h2⟩ := hlim; ⟨mc, nsK h1, h2⟩⟩
    have hC2 : CodeHd (hidT s₁.heap H) c T := by
      obtain ⟨o, us, file, tf, flags, tg, inF, text, tt, e1, e2, e3, r⟩ := hC
      exact ⟨o, us, file, tf, flags, tg, inF, text, tt, base_of e1 (noO e1 (by rw [e2]; intro z; cases z) (fun _ _ z => by rw [e3] at z; cases z)), e2, e3, r⟩
    have hM2 : BMod (hidT s₁.heap H) mg := by
      obtain ⟨b, ob, b1, b2, b3, b4, b5, b6⟩ := hM
      exact ⟨b, ob, b1, b2, base_of b3 (noO b3 (by rw [b4]; intro z; cases z) (fun _ _ z => by rw [b6] at z; cases z)), b4, b5, b6⟩
    have e0 : Env0 P w K mg (hidT s₁.heap H) callerA [] s₁ H := ⟨rfl, hMd, fun b o e => of_hidT e, Nat.le_of_eq (hidT_size _ _), trivial, fun b hb => absurd (show b ∈ ([] : List Addr) from hb) (by simp), hok, .of_eq hg⟩
    refine codeAny_mono ((F _ hKb (nsK hns) hC2 hM2).run callerA [] s₁ H ⟨[.ref a], []⟩ [.ref a] [.ref a] _ _ hr e0 (hbind s₁ (.ref a)) (.cons rfl .nil) (hsp H hO hS)) fun r s' h => ?_
    cases r with
    | error e => exact (hCX H e s' h).elim
    | ok fl =>
      cases fl with
      | next => exact False.elim h
      | brk => exact False.elim h
      | cont => exact False.elim h
      | ret u =>
        obtain ⟨v, H', os, bare, un, hok', r', z⟩ := h
        have z' : v = .bl true := z
        subst z'
        obtain rfl : u = Value.bool true := r'
        have kept : ∀ b o, b ≠ T → s₁.heap.get? b = some o → s'.heap.get? b = some o := fun b o nb e => by
          rcases hO.2 b nb with z | ⟨ob, xs, z⟩
          · exact un.keep b o e z (by intro z; exact absurd (show b ∈ ([] : List Addr) from z) (by simp)) (by simp)
          · have z2 := un.frzs b ob _ z
            obtain ⟨e1, _⟩ := hok b _ z
            obtain ⟨e2, _⟩ := hok' b _ z2
            rw [e] at e1; cases e1
            exact e2
        obtain ⟨more, hm⟩ := un.tbls T _ hO.1
        have eT : s'.heap.get? T = some (tabObj (#[] ++ more)) := hok' T _ hm
        refine ⟨rfl, ⟨fun b o e => ?_, fun b o e => ?_⟩, os, bare⟩
        · by_cases nb : b = T
          · subst nb
            rw [hT] at e; cases e
            exact .inr (.inl ⟨(hC.tab hT).isCodeTable, rfl, #[], more, rfl, eT⟩)
          · exact .inl (kept b o nb e)
        · by_cases nb : b = T
          · exact ⟨_, by rw [nb]; exact eT⟩
          · exact ⟨o, kept b o nb e⟩
  cases hk : K.lookup a with
  | some o =>
    have e := KX a o hk
    rw [ha] at e
    cases e
    have nb : ∀ b, b ≠ T → (fun b => if b = T then some (HO.tbl #[]) else none) b = none := fun b h => if_neg h
    refine core (fun b => if b = T then some (.tbl #[]) else none) ⟨if_pos rfl, fun b h => .inl (if_neg h)⟩ (.inr ⟨_, vs.toArray, _, hk, rfl, rfl, rfl, by rw [List.size_toArray, lenV]; exact hl, by simpa using rv⟩) (fun b u z => ?_) (fun b z => ?_) fun z => absurd (nb a naT) z
    · by_cases hb : b = T
      · have z' := (if_pos hb).symm.trans z
        cases z'
        rw [hb]; exact hT
      · have z' := (if_neg hb).symm.trans z
        cases z'
    · by_cases hb : b = T
      · exact .inr hb
      · exact absurd (nb b hb) z
  | none =>
    have q0 : ∀ b, b ≠ T → b ≠ a → (fun b => if b = T then some (HO.tbl #[]) else if b = a then some (HO.frz { cls := .type "list", data := .seq vs.toArray } (.lst (ns.map V.int))) else none) b = none := fun b h h' => by
      show (if b = T then _ else if b = a then _ else _) = _
      rw [if_neg h, if_neg h']
    have q1 : (fun b => if b = T then some (HO.tbl #[]) else if b = a then some (HO.frz { cls := .type "list", data := .seq vs.toArray } (.lst (ns.map V.int))) else none) T = some (.tbl #[]) := if_pos rfl
    have q2 : (fun b => if b = T then some (HO.tbl #[]) else if b = a then some (HO.frz { cls := .type "list", data := .seq vs.toArray } (.lst (ns.map V.int))) else none) a = some (.frz { cls := .type "list", data := .seq vs.toArray } (.lst (ns.map V.int))) := by
      show (if a = T then _ else if a = a then _ else _) = _
      rw [if_neg naT, if_pos rfl]
    generalize (fun b => if b = T then some (HO.tbl #[]) else if b = a then some (HO.frz { cls := .type "list", data := .seq vs.toArray } (.lst (ns.map V.int))) else none) = H at q0 q1 q2
    refine core H ⟨q1, fun b h => ?_⟩ (.inl (.inr ⟨{ cls := .type "list", data := .seq vs.toArray }, q2⟩)) (fun b u z => ?_) (fun b z => ?_) fun _ => hk
    · by_cases hb : b = a
      · subst hb; exact .inr ⟨_, _, q2⟩
      · exact .inl (q0 b h hb)
    · by_cases hb : b = T
      · subst hb
        rw [q1] at z; cases z
        exact hT
      · by_cases hb2 : b = a
        · subst hb2
          rw [q2] at z; cases z
          exact ⟨ha, by rw [List.length_map]; exact hl, vs, _, rv, ha⟩
        · rw [q0 b hb hb2] at z; cases z
    · by_cases hb : b = T
      · exact .inr hb
      · by_cases hb2 : b = a
        · exact .inl hb2
        · exact absurd (q0 b hb hb2) z
theorem walk_ofT {l : PySem.W.OpenLaw} {n k : Nat} {q : Program} {loose : List Str} {XP : (Str → Option Value) → Heap → Prop} {YP : World → Heap → Prop} {d : DefRec} {K : Params → PySem.W.Frag} {CX : CXT} {sp : PySem.W.Frag → Addr → Sp} {x : Str} {c T : Addr}
    (hn : l.most = some n) (hn2 : n ≤ sizeLine) (hdf : d.params.defaults = []) (hr : Room k callerA)
    (hY : ∀ (w : World) (h : Heap), YP w h → (K w.params).In h) (hT0 : ∀ (w : World) (h : Heap), YP w h → h.get? T = some (tabObj #[])) (hC0 : ∀ p : Params, codeHdIn (K p) c T = true) (hKT : ∀ p : Params, (K p).lookup T = none)
    (F : ∀ (w : World) (mg : Str → Option Value) (fa : Addr) (h : Heap), (K w.params).In h → h.Ns mainGlobals mg → mg d.name = some (.ref fa) →
      ∃ fd : FuncData, (∀ (s : Shared) (u : Value), BindsTo s fd ⟨[u], []⟩ [(x, u)]) ∧
        ∀ base : Heap, (K w.params).In base → base.Ns mainGlobals mg → CodeHd base c T → BMod base mg → FnOk l.prog w (K w.params) mg base CX k fa fd [x] (sp (K w.params) T))
    (hsp : ∀ (K : PySem.W.Frag) (H : Hp) (a : Addr) (ns : List Int), ns.length ≤ n → OnlyT T H → SqL K H a (ns.map V.int) → sp K T [.ref a] H (fun v _ => v = .bl true) fun _ _ _ => False)
    (hCX : ∀ (H : Hp) (s : Shared) (e : Value) (s' : Shared), CX [] H s (fun _ _ _ => False) e s' → False) :
    PySem.W.WalkO q loose XP YP l.row.toRowW d [] (fun f vs => PySem.call f vs) := by
  refine Att.attach_call hn hdf fun w s₀ s₁ mg mb fa o pm cd doc a vs ns G Y ho hd hcd hmg hobj hints hlen hg => ?_
  have KX := hY w _ Y
  obtain ⟨fd, hb, hF⟩ := F w mg fa _ KX G.T.g hmg
  have hC := codeHd_of_K KX (hC0 w.params)
  have hT := hT0 w _ Y
  exact law_callT KX G.T.g G.T.b G.T.builtins G.T.nolimit hg hobj hints (Nat.le_trans hlen hn2) hr hC hT G.T.bmain (hKT w.params) hF hb (fun H hO hS => hsp _ H a ns hlen hO hS) fun H e s' => hCX H s₁ e s'
end L2
set_option Elab.async false
set_option linter.all false
set_option maxRecDepth 100000
namespace L2
open PySem PySem.Spec PyProof.Rows
def DSsk (i : Nat) (He : Hp) (K : PySem.W.Frag) {ι : Type} (Y : ι → Cx) (st : List Stmt) (t : Ds) : Prop := ∃ ts : TS, (∀ j, PSs (Y j) st ts) ∧ ∀ {H0 R0 R H : Hp} {σ : St} {env : List Dt} (D : DEnds) (E : Ends), Fra He K H0 R H σ env → Same R0 R → Cov He K H0 R0 D E → t D env → ts { E with nx := fun σ' H' => σ'[i]? = σ[i]? ∧ E.nx σ' H' } σ H
section
variable {He : Hp} {K : PySem.W.Frag} {ι : Type} {Y : ι → Cx} {e a b c : Expr} {es : List Expr} {pos : Pos}
theorem dsk_putK (ik i : Nat) {x : Str} {p2 p3 : Pos} {ta tb : De} (hu : ∀ j, (Y j).A.units + 1 < cLine) (ha : DE He K Y a ta) (hb : DE He K Y b tb) (hv : autoParam (∀ j, PE (Y j) (.Name x p2) (tVar i)) u9._auto_1)
    (hs : autoParam (∀ j, swapsWith b (some (.Subscript (.Name x p2) a p3)) pos.line (Y j).env = pure false) u4._auto_1) :
    DSsk ik He K Y [.Assign [.Subscript (.Name x p2) a p3] b pos] (sPutK i ta tb) := by
  obtain ⟨t1, a1, a2⟩ := ha
  obtain ⟨t2, b1, b2⟩ := hb
  refine ⟨_, fun j => pss_one (ps_dput (hu j) (hv j) (a1 j) (b1 j) (hs j)), fun D E F s c p => ?_⟩
  refine b2 _ _ F p fun d v R1 H1 ⟨kvs, hx, hl, p1⟩ e1 r1 => ?_
  obtain ⟨q, ys, h1, h2, h3, h4, h5⟩ := (F.next e1).dkAt hx
  refine ⟨_, h1, a2 _ _ (F.next e1) p1 fun d2 v2 R2 H2 ⟨k, hk, p2⟩ e2 r2 => ?_⟩
  subst hk
  have F2 := (F.next e1).next e2
  have l2 := e2.hh q _ h2
  refine ⟨q, _, rfl, by rw [r2.int_inv]; exact DPut.k (k := .inl k) l2 (szlt' (by rw [h5.len]; omega)), rfl, ?_⟩
  exact c.nx _ _ _ _ p2 (s.trans (e1.trans e2).rr) (F2.mut hx rfl h1 trivial ⟨q, _, rfl, upd_same, e2.nn _ _ h2 h3, h4, (KvR.same e2.rr h5).put (Rp.same e2.rr r1)⟩)
def sForO (i : Nat) (g : Dg) (tb : Ds) : Ds := fun D env => ∃ l, env[i]? = some (.o l) ∧ ∃ I : Nat → List Dt → Prop, I 0 env ∧ (∀ k env1, I k env1 → env1[i]? = some (.o l)) ∧
  (∀ (k : Nat) (y : PyData) (env1 : List Dt), l[k]? = some y → I k env1 → g y env1 fun env2 => tb { nx := I (k + 1), rt := D.rt } env2) ∧ ∀ env1, I l.length env1 → D.nx env1
theorem ds_forO (i : Nat) {x : Str} {p2 : Pos} {tg : Expr} {ts : List Nat} {g : Dg} {tb : Ds} {body : List Stmt} (hp : ∀ i, PassesOwn (model (Y i).prog (Y i).w) (Y i).A (Y i).env (Y i).xe) (hg : DG He K Y tg ts g) (hb : DSsk i He K Y body tb) (hi : autoParam (i ∉ ts) u2._auto_1) (hv : autoParam (∀ j, PE (Y j) (.Name x p2) (tVar i)) u9._auto_1) (hc : autoParam (∀ i, (Y i).calm = true) u4._auto_1) (hK : autoParam (∀ i, (Y i).K = K) u4._auto_1)
    (hs : autoParam (∀ i z, foldedSetIterable (.Name x p2) (Y i).env z = pure z) u11._auto_1) : DS He K Y (.For tg (.Name x p2) body [] pos) (sForO i g tb) := by
  obtain ⟨gt, g1, g2⟩ := hg
  obtain ⟨bt, b1, b2⟩ := hb
  refine ⟨_, fun j => ps_for (hp j) (hc j) (pi_seqZ K (hv j) (hK j)) (g1 j) (b1 j) (hs j), fun {H0 R0 R H σ env} D E F s c p => ?_⟩
  obtain ⟨l, hl, I, i0, hI, is, id⟩ := p
  obtain ⟨a, ys, h1, h2, h3, h4, h5⟩ := F.lstAt hl
  refine ⟨_, h1, a, ys, rfl, .inl ⟨SqL.of h2, fun hz => ?_⟩⟩
  refine ⟨fun k m σ2 H2 => m = l.length - k ∧ k ≤ l.length ∧ ∃ R3 env2, Fra He K H0 R3 H2 σ2 env2 ∧ Same R R3 ∧ I k env2 ∧ σ2[i]? = some (some (.ref a)), ⟨l.length, by simp, Nat.zero_le _, R, env, F, Same.refl R, i0, h1⟩, ?_⟩
  rintro k m σ2 H2 ⟨rfl, hk, R3, env2, F3, s3, p3, e3⟩
  obtain ⟨a', ys3, k1, k2, k3, k4, k5⟩ := F3.lstAt (hI k env2 p3)
  rw [e3] at k1
  have k1 : a = a' := by simpa using k1
  subst k1
  by_cases hlt : k < l.length
  · have hd : l[k]? = some l[k] := by simp [hlt]
    obtain ⟨v, hv', rv⟩ := k5.get' hd
    refine .inr ⟨⟨ys3, v, SqL.of k2, hv'⟩, fun σ' H' => σ'[i]? = some (some (.ref a)) ∧ ∃ R2' env2, Fra He K H0 R2' H' σ' env2 ∧ Same R R2' ∧ I (k + 1) env2, fun σ' H' ⟨n1, R2', env2, n2, n3, n4⟩ => ⟨l.length - (k + 1), by omega, rfl, hlt, R2', env2, n2, n3, n4, n1⟩, fun z H4 y => ?_⟩
    obtain ⟨rfl, yy⟩ := y
    have ez := yy ys3 (SqL.of k2)
    rw [hv'] at ez
    cases ez
    refine g2 _ _ F3 rv (is k l[k] env2 hd p3) fun env5 σ5 p5 F5 ag => ?_
    have e5 : σ5[i]? = some (some (.ref a)) := by rw [ag.2 i hi]; exact e3
    have := b2 (R0 := R) { nx := I (k + 1), rt := D.rt } { nx := fun σ' H' => ∃ R2' env2, Fra He K H0 R2' H' σ' env2 ∧ Same R R2' ∧ I (k + 1) env2, rt := E.rt, bk := E.nx, ct := fun σ' H' => σ'[i]? = some (some (.ref a)) ∧ ∃ R2' env2, Fra He K H0 R2' H' σ' env2 ∧ Same R R2' ∧ I (k + 1) env2 } F5 s3 ⟨fun env' R' H' σ' z s' F' => ⟨R', env', F', s', z⟩, c.rt, fun _ _ _ _ z => z.elim, fun _ _ _ _ z => z.elim⟩ p5
    rw [e5] at this
    exact this
  · have e : k = l.length := by omega
    subst e
    exact .inl ⟨⟨ys3, SqL.of k2, by rw [k5.len]; exact Nat.le_refl _⟩, c.nx _ _ _ _ (id env2 p3) (s.trans s3) F3⟩
end
end L2
set_option Elab.async false
set_option linter.all false
set_option maxRecDepth 100000
namespace L2
open PySem PySem.Spec PyProof.Rows PySem.W
section
variable {T : Addr} {K : PySem.W.Frag} {R H R1 H1 R2 H2 A B : Hp} {ps : Array Value}
theorem Ext.excR (e : Ext A B R1 H1) (h1 : A T = none) (h2 : B T = none) : Ext A B (exc T R1) (exc T H1) := by
  have na : ∀ b o, A b = some o → b ≠ T := fun b o h z => by rw [z, h1] at h; cases h
  have nb : ∀ b o, B b = some o → b ≠ T := fun b o h z => by rw [z, h2] at h; cases h
  refine ⟨fun b o h => by rw [exc_ne (nb b o h)]; exact e.hh b o h, fun b o h => by rw [exc_ne (na b o h)]; exact e.rr b o h, fun b o h => ?_, fun b o h n => by rw [exc_ne (nb b o h)]; exact e.nn b o h n, fun b o h n => ?_⟩
  · obtain ⟨n, h⟩ := exc_some h
    rw [exc_ne n]; exact e.rh b o h
  · obtain ⟨m, h⟩ := exc_some h
    rw [exc_ne m] at n; exact e.ls b o h n
abbrev ExtT (T : Addr) (R H R' H' : Hp) : Prop := Ext (exc T R) (exc T H) R' H'
theorem ExtT.trans (a : ExtT T R H R1 H1) (b : ExtT T R1 H1 R2 H2) : ExtT T R H R2 H2 := Ext.trans (a.excR exc_at exc_at) b
theorem Ext.toT (e : Ext R H R1 H1) : ExtT T R H R1 H1 :=
  ⟨fun b o h => e.hh b o (exc_some h).2, fun b o h => e.rr b o (exc_some h).2, e.rh, fun b o h n => e.nn b o (exc_some h).2 (by rw [exc_ne (exc_some h).1] at n; exact n), e.ls⟩
theorem Rp.extT {v : V} {d : PyData} (r : Rp K R v d) (hR : R T = Option.some (HO.tbl ps)) (e : ExtT T R H R1 H1) : Rp K R1 v d := Rp.same e.rr (Rp.sameN (exc_sameN hR) r)
end
section
variable (lp : Pos) (q : Str) (T : Addr) (He : Hp) (K : PySem.W.Frag) {ι : Type} (Y : ι → Cx)
def DET (e : Expr) (t : De) : Prop := ∃ te : TE, (∀ i, PE (Y i) e te) ∧ ∀ {H0 R H : Hp} {σ : St} {env : List Dt} (P : PyData → Prop) (Q : VK), Fra He K H0 R H σ env → H0 T = none → TblI lp q T H → t env P →
  (∀ d v R' H', P d → TblI lp q T H' → ExtT T R H R' H' → Rp K R' v d → Q v H') → te σ H Q
def DTT (e : Expr) (t : Db) : Prop := ∃ te : TT, (∀ i, PT (Y i) e te) ∧ ∀ {H0 R H : Hp} {σ : St} {env : List Dt} (P : Bool → Prop) (Q : Bool → Hp → Prop), Fra He K H0 R H σ env → H0 T = none → TblI lp q T H → t env P →
  (∀ b R' H', P b → TblI lp q T H' → ExtT T R H R' H' → Q b H') → te σ H Q
end
section
variable {lp : Pos} {q : Str} {T : Addr} {He : Hp} {K : PySem.W.Frag} {ι : Type} {Y : ι → Cx} {e a b : Expr} {es : List Expr} {pos p : Pos} {st : Stmt} {rest : List Stmt}
theorem DE.toT {t : De} (h : DE He K Y e t) : DET lp q T He K Y e t := by
  obtain ⟨te, h1, h2⟩ := h
  exact ⟨te, h1, fun P Q F h0 ti p k => h2 P Q F p fun d v R' H' pd ex r => k d v R' H' pd (ti.same ex.hh) ex.toT r⟩
variable {prog : Program} {w : World} {mg : Str → Option Value} {base : Heap} {x : Str} {k : Nat} {ps : List Str} {P : List PyData → (Dt → Prop) → Prop} {t : Dq}
def xCallT (P : List PyData → (Dt → Prop) → Prop) (t : Dq) : De := fun env Q => t env fun ds => P ds fun dt => ∃ d, dt = .d d ∧ Q d
theorem deT_call (G : FnT prog w K mg base x k ps lp q T P) (hr : ∀ i, Room k (Y i).A) (ha : DA He K Y (e :: es) t) (hX : autoParam (∀ i, (Y i).prog = prog ∧ (Y i).w = w ∧ (Y i).K = K ∧ (Y i).mg = mg ∧ (Y i).base = base) u12._auto_1) (hg : autoParam (∀ i, Gl (Y i) x) u4._auto_1)
    (hdb : autoParam ((x == ("__debug__" : Str)) = false) u2._auto_1) (he : autoParam (∀ i, starEach (e :: es) (Y i).env = (false, eval e (Y i).env) :: starEach es (Y i).env) u4._auto_1) (hpl : autoParam (∀ i, (backTo pos (starEach es (Y i).env)).any (·.1) = false) u4._auto_1) :
    DET lp q T He K Y (.Call (.Name x p) (e :: es) [] pos) (xCallT P t) := by
  obtain ⟨te, h1, h2⟩ := ha
  refine ⟨tFnT lp q T K P te, fun i => ?_, fun Pk Q F h0 ti pp kk => h2 _ _ F pp fun ds vs R1 H1 q1 e1 r1 => ⟨R1, ds, _, e1.wd, ti.same e1.hh, r1, q1, fun dt v R' H' ⟨d, hd, pd⟩ ti' ex sl => ?_⟩⟩
  · obtain ⟨a1, a2, a3, a4, a5⟩ := hX i
    subst a1 a2 a3 a4 a5
    exact pe_fnT G (hr i) (h1 i) rfl (hg i) hdb (he i) (hpl i)
  · subst hd
    exact kk d v R' H' pd ti' (ExtT.trans e1.toT ex) sl
def xPair (ta tb : De) : De := fun env P => ta env fun x => tb env fun y => P (.tuple [x, y])
theorem deT_pair {ta tb : De} {x1} (ha : DET lp q T He K Y a ta) (hb : DET lp q T He K Y b tb) (hs : autoParam (∀ i, starEach [a, b] (Y i).env = (false, eval a (Y i).env) :: starEach [b] (Y i).env) u4._auto_1) (hs2 : autoParam (∀ i, starEach [b] (Y i).env = (false, eval b (Y i).env) :: starEach [] (Y i).env) u4._auto_1) :
    DET lp q T He K Y (.Tuple [a, b] x1 pos) (xPair ta tb) := by
  obtain ⟨te, h1, h2⟩ := ha
  obtain ⟨te', h3, h4⟩ := hb
  refine ⟨_, fun i => pe_tup (pa_cons (h1 i) (pa_cons (h3 i) pa_nil (hs2 i)) (hs i)), fun P Q F h0 ti pp kk => h2 _ _ F h0 ti pp fun d v R1 H1 q1 ti1 e1 r1 => ?_⟩
  obtain ⟨pt, hRT⟩ := (ti.back F.wd).at
  have F1 := F.nextT h0 hRT e1
  refine h4 _ _ F1 h0 ti1 q1 fun d2 v2 R2 H2 q2 ti2 e2 r2 => ⟨szl (Nat.le_of_ble_eq_true rfl), fun z hz => ?_⟩
  obtain ⟨pt1, hRT1⟩ := (ti1.back F1.wd).at
  have e3 := Ext.new (o := .tup [v, v2]) e2.wd hz
  have e := ExtT.trans (ExtT.trans e1 e2) e3.toT
  have s3 : Same R2 (upd R2 z (.tup [v, v2])) := e3.rr
  exact kk _ _ _ _ q2 (ti2.same e3.hh) e (.tup upd_same (RpAll.same s3 (.cons (r1.extT hRT1 e2) (.cons r2 .nil))))
theorem x2T_run {op : CmpOp} {r : PyData → PyData → (PyData → Prop) → Prop} {ta tb : De} {te te' : TE} {rr : R2}
    (ha : ∀ {H0 R H : Hp} {σ : St} {env : List Dt} (P : PyData → Prop) (Q : VK), Fra He K H0 R H σ env → H0 T = none → TblI lp q T H → ta env P → (∀ d v R' H', P d → TblI lp q T H' → ExtT T R H R' H' → Rp K R' v d → Q v H') → te σ H Q)
    (hb : ∀ {H0 R H : Hp} {σ : St} {env : List Dt} (P : PyData → Prop) (Q : VK), Fra He K H0 R H σ env → tb env P → (∀ d v R' H', P d → Ext R H R' H' → Rp K H' v d → Q v H') → te' σ H Q)
    (ho : ∀ {H : Hp} {x y : V} {dx dy : PyData} (P : PyData → Prop) (Q : VK), Rp K H x dx → Rp K H y dy → r dx dy P → (∀ d v, P d → Sc v d → Q v H) → rr x y H Q)
    {H0 R H : Hp} {σ : St} {env : List Dt} (P : PyData → Prop) (Q : VK) (F : Fra He K H0 R H σ env) (h0 : H0 T = none) (ti : TblI lp q T H) (p : x2 r ta tb env P) (k : ∀ d v R' H', P d → TblI lp q T H' → ExtT T R H R' H' → Sc v d → Q v H') : tOp rr te te' σ H Q := by
  refine ha _ _ F h0 ti p fun d v R1 H1 p1 ti1 e1 r1 => ?_
  obtain ⟨pt, hRT⟩ := (ti.back F.wd).at
  have F1 := F.nextT h0 hRT e1
  refine hb _ _ F1 p1 fun d2 v2 R2 H2 p2 e2 r2 => ?_
  exact ho P _ (Rp.same e2.hh (Rp.same F1.wd.rh r1)) r2 p2 fun d3 v3 p3 s3 => k d3 v3 R2 H2 p3 (ti1.same e2.hh) (ExtT.trans e1 e2.toT) s3
theorem deT_cmp {op : CmpOp} {r : PyData → PyData → (PyData → Prop) → Prop} {ta tb : De} (o : OD K Y (compareOp op) r) (ha : DET lp q T He K Y a ta) (hb : DB He K Y b tb) (hm : autoParam (behindInMarks op b = false) u10._auto_1) : DET lp q T He K Y (.Compare a [op] [b] pos) (x2 r ta tb) := by
  obtain ⟨te, h1, h2⟩ := ha
  obtain ⟨te', h3, h4⟩ := hb
  obtain ⟨rr, h5, h6⟩ := o
  exact ⟨_, fun i => pe_cmpR (h5 i) (h1 i) (h3 i) hm, fun P Q F h0 ti p k => x2T_run (op := op) h2 h4 h6 P Q F h0 ti p fun d v R' H' pd ti' ex s => k d v R' H' pd ti' ex (s K R')⟩
theorem dtT_cmp {op : CmpOp} {r : PyData → PyData → (PyData → Prop) → Prop} {ta tb : De} (o : OD K Y (compareOp op) r) (ha : DET lp q T He K Y a ta) (hb : DB He K Y b tb) (hm : autoParam (behindInMarks op b = false) u10._auto_1) : DTT lp q T He K Y (.Compare a [op] [b] pos) (xB (x2 r ta tb)) := by
  obtain ⟨te, h1, h2⟩ := ha
  obtain ⟨te', h3, h4⟩ := hb
  obtain ⟨rr, h5, h6⟩ := o
  refine ⟨_, fun i => pt_cmpR (h5 i) (h1 i) (h3 i) hm, fun P Q F h0 ti p k => x2T_run (op := op) h2 h4 h6 _ _ F h0 ti p fun d v R' H' ⟨b, eb, pb⟩ ti' ex s => ?_⟩
  subst eb
  exact ⟨b, (s K R').bl_inv, k b R' H' pb ti' ex⟩
theorem DST.set (i : Nat) {x : Str} {t : De} {pos' : Pos} (hN : ∀ j, (Y j).N.Nodup) (h : DET lp q T He K Y e t) (hi : autoParam (∀ j, (Y j).N[i]? = some x) u4._auto_1) (hx : autoParam (∀ j, Loc (Y j).env.scope x) u13._auto_1)
    (hs : autoParam (∀ j, swapsWith e (some (.Name x pos')) pos.line (Y j).env = pure false) u4._auto_1) (hf : autoParam (∀ j, (Y j).fn x = true ∨ (Y j).env.scope.names.lookup x = some .local) u14._auto_1) :
    DST lp q T He K Y (.Assign [.Name x pos'] e pos) (sSet i t) := by
  obtain ⟨a, a1, a2⟩ := h
  refine ⟨_, fun j => ps_set (hN j) (hi j) (hx j) (a1 j) (hs j) (hf j), fun D E F h0 h0' s0 ti c p => a2 _ _ F h0 ti p fun d v R' H' z ti' e r => ?_⟩
  obtain ⟨pt, hRT⟩ := (ti.back F.wd).at
  exact c.nx _ _ _ _ z ti' (exc_keep s0 h0' e.rr) ((F.nextT h0 hRT e).setD i r)
theorem DST.ret {t : De} (h : DET lp q T He K Y e t) : DST lp q T He K Y (.Return (some e) pos) (sRet t) := by
  obtain ⟨a, a1, a2⟩ := h
  refine ⟨_, fun j => ps_ret (a1 j), fun D E F h0 h0' s0 ti c p => a2 _ _ F h0 ti p fun d v R' H' z ti' e r => ?_⟩
  exact c.rt (.d d) v R' H' z ti' (Ext.trans (F.ext.exc0 h0) e) r
theorem DST.ite {t : Db} {u w : Ds} {th el : List Stmt} {c : Expr} (hc : DTT lp q T He K Y c t) (h1 : DSsT lp q T He K Y th u) (h2 : DSsT lp q T He K Y el w) : DST lp q T He K Y (.If c th el pos) (sIf t u w) := by
  obtain ⟨a, a1, a2⟩ := hc
  obtain ⟨b, b1, b2⟩ := h1
  obtain ⟨d, d1, d2⟩ := h2
  refine ⟨_, fun j => ps_if (a1 j) (b1 j) (d1 j), fun D E F h0 h0' s0 ti c p => a2 _ _ F h0 ti p fun bb R' H' z ti' e => ?_⟩
  obtain ⟨pt, hRT⟩ := (ti.back F.wd).at
  have F' := F.nextT h0 hRT e
  have s1 := exc_keep s0 h0' e.rr
  cases bb with
  | true =>
    rw [if_pos rfl] at z ⊢
    exact b2 D E F' h0 h0' s1 ti' c z
  | false =>
    rw [if_neg Bool.false_ne_true] at z ⊢
    exact d2 D E F' h0 h0' s1 ti' c z
def sForL (t : De) (g : Dg) (tb : Ds) : Ds := fun D env => t env fun d => ∃ l, d = .list l ∧ ∃ I : Nat → List Dt → Prop, I 0 env ∧ (∀ (k : Nat) (y : PyData) (env1 : List Dt), l[k]? = some y → I k env1 → g y env1 fun env2 => tb { nx := I (k + 1), rt := D.rt } env2) ∧ ∀ env1, I l.length env1 → D.nx env1
theorem DST.for {iter tg : Expr} {ts : List Nat} {t : De} {g : Dg} {tb : Ds} {body : List Stmt} (hp : ∀ i, PassesOwn (model (Y i).prog (Y i).w) (Y i).A (Y i).env (Y i).xe) (hi : DE He K Y iter t) (hg' : DG He K Y tg ts g) (hb : DSsT lp q T He K Y body tb) (hc : autoParam (∀ i, (Y i).calm = true) u4._auto_1) (hK : autoParam (∀ i, (Y i).K = K) u4._auto_1)
    (hs : autoParam (∀ i z, foldedSetIterable iter (Y i).env z = pure z) u11._auto_1) : DST lp q T He K Y (.For tg iter body [] pos) (sForL t g tb) := by
  obtain ⟨te, h1, h2⟩ := hi
  obtain ⟨gt, g1, g2⟩ := hg'
  obtain ⟨bt, b1, b2⟩ := hb
  refine ⟨_, fun j => ps_for (hp j) (hc j) (pi_seqZ K (h1 j) (hK j)) (g1 j) (b1 j) (hs j), fun {H0 R0 R H σ env} D E F h0 h0' s0 ti c pp => h2 _ _ F pp fun d v R1 H1 ⟨l, hl, I, i0, is, id⟩ e1 r1 => ?_⟩
  subst hl
  obtain ⟨a, ys, rfl, ra, r2⟩ := r1.lst_inv
  have ti1 := ti.same e1.hh
  have F1 := F.next e1
  obtain ⟨pt, hRT⟩ := (ti1.back F1.wd).at
  refine ⟨a, ys, rfl, .inl ⟨SqL.of (F1.wd.rh _ _ ra), fun hz => ?_⟩⟩
  have yd := yld_list (K := K) (SqL.of (exc_sameN hRT _ _ ra (by intro _ z; cases z))) (RpAll.sameN (exc_sameN hRT) r2)
  refine ⟨fun i m σ2 H2 => m = l.length - i ∧ i ≤ l.length ∧ ∃ R3 env2, Fra He K H0 R3 H2 σ2 env2 ∧ Same (exc T R1) R3 ∧ TblI lp q T H2 ∧ I i env2, ⟨l.length, by simp, Nat.zero_le _, R1, env, F1, exc_same, ti1, i0⟩, ?_⟩
  rintro i m σ2 H2 ⟨rfl, hi', R3, env2, F3, s3, ti3, p3⟩
  by_cases hlt : i < l.length
  · refine .inr ⟨yd.go R3 H2 i s3 F3.wd hlt, fun σ' H' => ∃ R2' env2, Fra He K H0 R2' H' σ' env2 ∧ Same (exc T R1) R2' ∧ TblI lp q T H' ∧ I (i + 1) env2, fun σ' H' n' => ⟨l.length - (i + 1), by omega, rfl, hlt, n'⟩, fun z H4 y => ?_⟩
    have hd' : l[i]? = some l[i] := by simp [hlt]
    obtain ⟨R4, e4, r4⟩ := yd.yl R3 H2 i l[i] z H4 s3 F3.wd hd' y
    have ti4 := ti3.same e4.hh
    refine g2 _ _ (F3.next e4) r4 (is i l[i] env2 hd' p3) fun env5 σ5 p5 F5 _ => ?_
    have s4 : Same (exc T R1) R4 := s3.trans e4.rr
    exact b2 (R0 := exc T R1) { nx := I (i + 1), rt := D.rt } _ F5 h0 exc_at s4 ti4 ⟨fun env' R' H' σ' z ti' s' F' => ⟨R', env', F', s', ti', z⟩, c.rt, fun _ z => z, fun _ z => z⟩ p5
  · have e : i = l.length := by omega
    subst e
    exact .inl ⟨yd.st R3 H2 s3 F3.wd, c.nx _ _ _ _ (id env2 p3) ti3 (exc_keep (s0.trans e1.rr) h0' s3) F3⟩
end
end L2
set_option maxHeartbeats 4000000
namespace Me
open PySem L2
def top (i : Nat) : Stmt := PySem.Challenge.pw_fewpoints_k13_whole_counts_stay.main.body.getD i (.Pass ⟨0, 0, 0, 0⟩)
abbrev s_refuse_too_many : Stmt := top 7
abbrev sPoint : Stmt := top 8
abbrev sSame : Stmt := top 9
abbrev s_points_under : Stmt := top 10
abbrev s_points_over : Stmt := top 11
abbrev s_pieces : Stmt := top 12
abbrev s_piece_of : Stmt := top 13
abbrev s_even_count : Stmt := top 14
abbrev s_from_below : Stmt := top 15
abbrev s_goal : Stmt := top 17
abbrev s_lowest : Stmt := top 18
abbrev s_highest : Stmt := top 19
abbrev s_folded : Stmt := top 20
abbrev s_without : Stmt := top 21
abbrev s_closed_up : Stmt := top 22
abbrev s_along : Stmt := top 23
abbrev s_beside : Stmt := top 25
abbrev s_turned : Stmt := top 26
abbrev s_topped : Stmt := top 27
abbrev sStir : Stmt := top 29
abbrev sCell : Stmt := top 30
abbrev sDraw : Stmt := top 31
abbrev sClosed : Stmt := top 32
abbrev sRaw : Stmt := top 33
abbrev sDig : Stmt := top 34
abbrev sMix : Stmt := top 35
abbrev sSpace : Stmt := top 36
abbrev s__law_goal : Stmt := top 37
abbrev s__law_without : Stmt := top 38
abbrev s__law_foldable : Stmt := top 39
abbrev s__law_drawn_row : Stmt := top 40
abbrev sLaw : Stmt := top 41
abbrev Rel := Nat → Nat → Bool
def stp (t : Rel) (k a b : Nat) : Rel := if (t a k && t k b) = true then (fun x y => if x = a ∧ y = b then true else t x y) else t
def w3 (t : Rel) (k a : Nat) : Nat → Rel
  | 0 => t
  | n + 1 => stp (w3 t k a n) k a n
def w2 (m : Nat) (t : Rel) (k : Nat) : Nat → Rel
  | 0 => t
  | n + 1 => w3 (w2 m t k n) k n m
def w1 (m : Nat) (t : Rel) : Nat → Rel
  | 0 => t
  | n + 1 => w2 m (w1 m t n) n m
theorem w3_eq (t : Rel) (k a : Nat) : ∀ (n x y : Nat), w3 t k a n x y = (t x y || (decide (x = a) && decide (y < n) && t a k && t k y))
  | 0, x, y => by simp [w3]
  | n + 1, x, y => by
    have ih := w3_eq t k a n
    have e1 : w3 t k a n a k = t a k := by
      rw [ih]; cases t a k <;> simp
    have e2 : w3 t k a n k n = t k n := by
      rw [ih]; simp
    show stp (w3 t k a n) k a n x y = _
    unfold stp
    rw [e1, e2]
    by_cases hc : (t a k && t k n) = true
    · rw [if_pos hc]
      have hc := Bool.and_eq_true_iff.mp hc
      by_cases hxy : x = a ∧ y = n
      · rw [if_pos hxy]
        obtain ⟨rfl, rfl⟩ := hxy
        simp [hc.1, hc.2]
      · rw [if_neg hxy, ih]
        by_cases hx : x = a
        · subst hx
          have hy : ¬ y = n := fun z => hxy ⟨rfl, z⟩
          have : decide (y < n) = decide (y < n + 1) := by simp; omega
          rw [this]
        · simp [hx]
    · rw [if_neg hc, ih]
      by_cases hx : x = a
      · subst hx
        by_cases hy : y = n
        · subst hy
          have : (t x k && t k y) = false := by simpa using hc
          simp only [Nat.lt_irrefl, decide_false, Bool.and_false, Bool.false_and, decide_true, Bool.true_and, Nat.lt_succ_self, this, Bool.or_false]
        · have : decide (y < n) = decide (y < n + 1) := by simp; omega
          rw [this]
      · simp [hx]
theorem w2_eq (m : Nat) (t : Rel) (k : Nat) : ∀ (n x y : Nat), w2 m t k n x y = (t x y || (decide (x < n) && decide (y < m) && t x k && t k y))
  | 0, x, y => by simp [w2]
  | n + 1, x, y => by
    have ih := w2_eq m t k n
    show w3 (w2 m t k n) k n m x y = _
    rw [w3_eq]
    have e1 : w2 m t k n n k = t n k := by rw [ih]; simp
    have e2 : w2 m t k n k y = t k y := by rw [ih]; cases t k y <;> simp
    rw [e1, e2, ih]
    by_cases hx : x = n
    · subst hx
      simp
    · have : decide (x < n) = decide (x < n + 1) := by simp; omega
      rw [this]
      simp [hx]
theorem w1_step (m : Nat) (t : Rel) (n x y : Nat) (hx : x < m) (hy : y < m) : w1 m t (n + 1) x y = (w1 m t n x y || (w1 m t n x n && w1 m t n n y)) := by
  show w2 m (w1 m t n) n m x y = _
  rw [w2_eq]
  simp [hx, hy]
theorem w1_trans (m : Nat) (t : Rel) : ∀ (n : Nat), n ≤ m → ∀ c a b, c < n → a < m → b < m → w1 m t n a c = true → w1 m t n c b = true → w1 m t n a b = true
  | 0, _, c, _, _, h, _, _, _, _ => absurd h (Nat.not_lt_zero _)
  | n + 1, hn, c, a, b, hc, ha, hb, h1, h2 => by
    have ih := w1_trans m t n (by omega)
    have hcm : c < m := by omega
    have hnm : n < m := by omega
    rw [w1_step m t n a c ha hcm] at h1
    rw [w1_step m t n c b hcm hb] at h2
    rw [w1_step m t n a b ha hb]
    simp only [Bool.or_eq_true, Bool.and_eq_true] at h1 h2 ⊢
    by_cases e : c = n
    · subst e
      have k1 : w1 m t c a c = true := h1.elim id fun z => z.1
      have k2 : w1 m t c c b = true := h2.elim id fun z => z.2
      exact .inr ⟨k1, k2⟩
    · have hc' : c < n := by omega
      rcases h1 with h1 | ⟨h1, h1'⟩ <;> rcases h2 with h2 | ⟨h2, h2'⟩
      · exact .inl (ih c a b hc' ha hb h1 h2)
      · exact .inr ⟨ih c a n hc' ha hnm h1 h2, h2'⟩
      · exact .inr ⟨h1, ih c n b hc' hnm hb h1' h2⟩
      · exact .inr ⟨h1, h2'⟩
theorem w1_min (m : Nat) (t : Rel) (S : Nat → Nat → Prop) (h0 : ∀ x y, x < m → y < m → t x y = true → S x y) (hS : ∀ a b c, a < m → b < m → c < m → S a b → S b c → S a c) : ∀ (n x y : Nat), n ≤ m → x < m → y < m → w1 m t n x y = true → S x y
  | 0, x, y, _, hx, hy, h => h0 x y hx hy h
  | n + 1, x, y, hn, hx, hy, h => by
    rw [w1_step m t n x y hx hy] at h
    simp only [Bool.or_eq_true, Bool.and_eq_true] at h
    rcases h with h | ⟨h1, h2⟩
    · exact w1_min m t S h0 hS n x y (by omega) hx hy h
    · exact hS x n y hx (by omega) hy (w1_min m t S h0 hS n x n (by omega) hx (by omega) h1) (w1_min m t S h0 hS n n y (by omega) (by omega) hy h2)
def rowOf (m : Nat) (t : Rel) (a : Nat) : List (Int × Int) := ((List.range m).filter (t a)).map fun (b : Nat) => ((a : Int), (b : Int))
def pairsOf (m : Nat) (t : Rel) : List (Int × Int) := (List.range m).flatMap (rowOf m t)
def t0 (ps : List (Int × Int)) : Rel := fun a b => decide (((a : Int), (b : Int)) ∈ ps ∧ a ≠ b)
def clo (m : Nat) (ps : List (Int × Int)) : List (Int × Int) := pairsOf m (w1 m (t0 ps) m)
theorem mem_pairsOf {m : Nat} {t : Rel} {q : Int × Int} : q ∈ pairsOf m t ↔ ∃ a b : Nat, a < m ∧ b < m ∧ t a b = true ∧ q = ((a : Int), (b : Int)) := by
  unfold pairsOf rowOf
  rw [List.mem_flatMap]
  constructor
  · rintro ⟨a, ha, h⟩
    obtain ⟨b, hb, rfl⟩ := List.mem_map.mp h
    obtain ⟨h1, h2⟩ := List.mem_filter.mp hb
    exact ⟨a, b, List.mem_range.mp ha, List.mem_range.mp h1, h2, rfl⟩
  · rintro ⟨a, b, ha, hb, h, rfl⟩
    exact ⟨a, List.mem_range.mpr ha, List.mem_map.mpr ⟨b, List.mem_filter.mpr ⟨List.mem_range.mpr hb, h⟩, rfl⟩⟩
theorem mem_pairsOf' {m : Nat} {t : Rel} {a b : Nat} : ((a : Int), (b : Int)) ∈ pairsOf m t ↔ a < m ∧ b < m ∧ t a b = true := by
  rw [mem_pairsOf]
  constructor
  · rintro ⟨x, y, h1, h2, h3, e⟩
    have e1 : a = x := Int.ofNat.inj (congrArg Prod.fst e)
    have e2 : b = y := Int.ofNat.inj (congrArg Prod.snd e)
    subst e1 e2
    exact ⟨h1, h2, h3⟩
  · rintro ⟨h1, h2, h3⟩
    exact ⟨a, b, h1, h2, h3, rfl⟩
theorem rowOf_len (m : Nat) (t : Rel) (a : Nat) : (rowOf m t a).length ≤ m := by
  unfold rowOf
  rw [List.length_map]
  exact Nat.le_trans (List.length_filter_le _ _) (by rw [List.length_range]; exact Nat.le_refl _)
theorem pairsTo_len (m : Nat) (t : Rel) : ∀ n, ((List.range n).flatMap (rowOf m t)).length ≤ n * m
  | 0 => by simp
  | n + 1 => by
    rw [List.range_succ, List.flatMap_append, List.length_append]
    have h1 := pairsTo_len m t n
    have h2 := rowOf_len m t n
    simp only [List.flatMap_cons, List.flatMap_nil, List.append_nil]
    rw [Nat.succ_mul]
    omega
theorem pairsOf_len (m : Nat) (t : Rel) : (pairsOf m t).length ≤ m * m := pairsTo_len m t m
def IsSp (m : Nat) (ts : List (Int × Int)) : Prop := ∃ t : Rel, ts = pairsOf m t ∧ (∀ a, a < m → t a a = false) ∧ ∀ a b c, a < m → b < m → c < m → t a b = true → t b c = true → t a c = true
theorem IsSp.len {m : Nat} {ts : List (Int × Int)} (h : IsSp m ts) : ts.length ≤ m * m := by
  obtain ⟨t, rfl, _⟩ := h
  exact pairsOf_len m t
def Up (os : List Int) (q : Int × Int) : Prop := ∃ j i : Nat, j < i ∧ os[j]? = some q.1 ∧ os[i]? = some q.2
theorem nodup_at {os : List Int} (nd : os.Nodup) {i j : Nat} {x : Int} (h : os[i]? = some x) (h' : os[j]? = some x) : i = j := by
  obtain ⟨hi, ei⟩ := List.getElem?_eq_some_iff.mp h
  obtain ⟨hj, ej⟩ := List.getElem?_eq_some_iff.mp h'
  have pw := List.pairwise_iff_getElem.mp nd
  rcases Nat.lt_trichotomy i j with z | z | z
  · exact absurd (ei.trans ej.symm) (pw i j hi hj z)
  · exact z
  · exact absurd (ej.trans ei.symm) (pw j i hj hi z)
theorem clo_sp {m : Nat} {ps : List (Int × Int)} {os : List Int} (nd : os.Nodup) (hu : ∀ q ∈ ps, Up os q) : IsSp m (clo m ps) := by
  have S : ∀ x y : Nat, x < m → y < m → w1 m (t0 ps) m x y = true → Up os ((x : Int), (y : Int)) := by
    intro x y hx hy h
    refine w1_min m (t0 ps) (fun x y => Up os ((x : Int), (y : Int))) (fun x y _ _ h => ?_) (fun a b c _ _ _ h1 h2 => ?_) m x y (Nat.le_refl _) hx hy h
    · exact hu _ (of_decide_eq_true h).1
    · obtain ⟨i1, i2, l1, g1, g2⟩ := h1
      obtain ⟨i3, i4, l2, g3, g4⟩ := h2
      have : i2 = i3 := nodup_at nd g2 g3
      exact ⟨i1, i4, by omega, g1, g4⟩
  refine ⟨w1 m (t0 ps) m, rfl, fun a ha => ?_, fun a b c ha hb hc h1 h2 => w1_trans m (t0 ps) m (Nat.le_refl _) b a c hb ha hc h1 h2⟩
  cases e : w1 m (t0 ps) m a a with
  | false => rfl
  | true =>
    obtain ⟨j, i, l, g1, g2⟩ := S a a ha ha e
    have := nodup_at nd g1 g2
    omega
def pD (p : Int × Int) : PyData := .tuple [.int p.1, .int p.2]
def spD (n : Int) (ps : List (Int × Int)) : PyData := .tuple [.int n, .tuple (ps.map pD)]
theorem imm_pairs : ∀ ps : List (Int × Int), immAll (ps.map pD) = true
  | [] => rfl
  | p :: r => by
    show (immD (pD p) && immAll (r.map pD)) = true
    rw [imm_pairs r]; rfl
theorem lay_pairs : ∀ ps : List (Int × Int), PyData.canLayAll0 (ps.map pD) = true
  | [] => rfl
  | p :: r => by
    show (PyData.canLay0 (pD p) && PyData.canLayAll0 (r.map pD)) = true
    rw [lay_pairs r]; rfl
theorem depth_pD (p : Int × Int) : (pD p).depth ≤ 3 := by simp [pD, PyData.depth, PyData.depthAll]
theorem eqv_pD (p q : Int × Int) : PyData.eqv (pD p) (pD q) = decide (p = q) := by
  obtain ⟨a, b⟩ := p
  obtain ⟨c, d⟩ := q
  simp only [pD, PyData.eqv, PyData.eqvAll]
  by_cases h1 : a = c <;> by_cases h2 : b = d <;> simp [h1, h2]
theorem any_pD (p : Int × Int) : ∀ ps : List (Int × Int), ((ps.map pD).any fun d => PyData.eqv d (pD p)) = decide (p ∈ ps)
  | [] => by simp
  | q :: r => by
    rw [List.map_cons, List.any_cons, any_pD p r, eqv_pD]
    by_cases h : q = p
    · subst h; simp
    · have h' : ¬ p = q := fun e => h e.symm
      simp [h, h']
theorem mkPair {K : PySem.W.Frag} {H : Hp} {a : Addr} {x y : Int} (h : H a = some (.tup [.int x, .int y])) : Rp K H (.ref a) (pD (x, y)) := .tup h (.cons (.int x) (.cons (.int y) .nil))
theorem space_inv {K : PySem.W.Frag} {H : Hp} {v : V} {n : Int} {ps : List (Int × Int)} (h : Rp K H v (spD n ps)) : ∃ a t ys, v = .ref a ∧ H a = some (.tup [.int n, .ref t]) ∧ H t = some (.tup ys) ∧ RpAll K H ys (ps.map pD) := by
  obtain ⟨a, xs, rfl, h1, h2⟩ := Rp.tup_inv h
  cases h2 with
  | cons i j =>
    cases j with
    | cons i2 j2 =>
      cases j2
      obtain ⟨t, ys, rfl, h3, h4⟩ := Rp.tup_inv i2
      rw [i.int_inv] at h1
      exact ⟨a, t, ys, rfl, h1, h3, h4⟩
def leqP (qs : List (Int × Int)) (a b : Int) : Prop := a = b ∨ (a, b) ∈ qs
def inR (n : Int) (q : Int × Int) : Prop := 0 ≤ q.1 ∧ q.1 < n ∧ 0 ≤ q.2 ∧ q.2 < n
theorem IsSp.inR {m : Nat} {ts : List (Int × Int)} (h : IsSp m ts) : ∀ q ∈ ts, Me.inR m q := by
  obtain ⟨t, rfl, _⟩ := h
  intro q hq
  obtain ⟨a, b, ha, hb, _, rfl⟩ := mem_pairsOf.mp hq
  exact ⟨by show (0 : Int) ≤ a; omega, by show (a : Int) < m; omega, by show (0 : Int) ≤ b; omega, by show (b : Int) < m; omega⟩
theorem modB (v m : Int) (h : 0 < m) (hm : m < 2 ^ 64) : -(2 ^ 64) < v % m ∧ v % m < 2 ^ 64 := by
  have h1 := Int.emod_nonneg v (Int.ne_of_gt h)
  have h2 := Int.emod_lt_of_pos v h
  omega
theorem szle {n : Nat} (h : n ≤ 100000) : n ≤ sizeLine := Nat.le_trans h (by decide)
theorem szlt {n : Nat} (h : n ≤ 100000) : n < sizeLine := Nat.lt_of_le_of_lt h (by decide)
theorem for_range0 {n : Nat} {g : TG} {tb : TS} {D : Ends} {σ : St} {H : Hp} (Pv : Nat → St → Hp → Prop) (h0 : Pv 0 σ H)
    (hs : ∀ i σ H, i < n → Pv i σ H → g (.int (i : Int)) σ H fun σ2 H2 => tb { D with nx := Pv (i + 1), ct := Pv (i + 1), bk := D.nx } σ2 H2) (hd : ∀ σ H, Pv n σ H → D.nx σ H) :
    ∃ W : Nat → Nat → St → Hp → Prop, (∃ m, W 0 m σ H) ∧ ∀ i m σ H, W i m σ H →
      ((Itr 0 n).stop i H ∧ D.nx σ H) ∨ ((Itr 0 n).go i H ∧ ∃ N : St → Hp → Prop, (∀ σ' H', N σ' H' → ∃ m', m' < m ∧ W (i + 1) m' σ' H') ∧ ∀ x H', (Itr 0 n).yld i H x H' → g x σ H' fun σ2 H2 => tb { D with nx := N, ct := N, bk := D.nx } σ2 H2) :=
  for_range (lo := 0) Pv h0 (fun i σ H hi p => by rw [Int.zero_add]; exact hs i σ H hi p) hd
theorem lc_range0 {n : Nat} {g : TG} {tc : TT} {te : TE} {Q : VK} {D : Addr} {σ : St} {H : Hp} (Pv : Nat → St → List V → Hp → Prop) (h0 : Pv 0 σ [] H)
    (hs : ∀ i σ acc H, i < n → Pv i σ acc H → g (.int (i : Int)) σ H fun σ2 H2 => tc σ2 H2 fun b H3 => if b = true then te σ2 H3 fun y H4 => H4 D = some (.lst acc) ∧ acc.length < sizeLine ∧ Pv (i + 1) σ2 (acc ++ [y]) (upd H4 D (.lst (acc ++ [y]))) else Pv (i + 1) σ2 acc H3)
    (hd : ∀ σ acc H, Pv n σ acc H → Q (.ref D) H) :
    ∃ W : Nat → Nat → St → List V → Hp → Prop, (∃ m, W 0 m σ [] H) ∧ lcTurn (Itr 0 n) g tc te Q D W :=
  lc_range (lo := 0) Pv h0 (fun i σ acc H hi p => by rw [Int.zero_add]; exact hs i σ acc H hi p) hd
theorem bt_int : bootBuiltins "int" = some (.type "int") := by decide +kernel
theorem bt_list : bootBuiltins "list" = some (.type "list") := by decide +kernel
theorem bt_tuple : bootBuiltins "tuple" = some (.type "tuple") := by decide +kernel
theorem bt_len : bootBuiltins "len" = some (.builtin "len") := by decide +kernel
theorem ixN_nat {n j : Nat} (h : j < n) : ixN n (j : Int) = some j := by
  unfold ixN
  rw [if_pos (by omega), if_pos (by omega)]; simp
structure Txt (K : PySem.W.Frag) (mg : Str → Option Value) : Prop where
  range : mg "range" = none
  len : mg "len" = none
  list : mg "list" = none
  tuple : mg "tuple" = none
  isi : mg "isinstance" = none
  int : mg "int" = none
  bool : mg "bool" = none
  zip : mg "zip" = none
  all : mg "all" = none
  any : mg "any" = none
  sum : mg "sum" = none
  sorted : mg "sorted" = none
  min : mg "min" = none
  max : mg "max" = none
  str : mg "str" = none
  enumerate : mg "enumerate" = none
  set : mg "set" = none
  reversed : mg "reversed" = none
  ve : mg "ValueError" = none
  kii : PySem.W.kitOne K (.type "int") (.type "int") = some true
  kib : PySem.W.kitOne K (.type "int") (.type "bool") = some false
  kbb : PySem.W.kitOne K (.type "bool") (.type "bool") = some true
  ktt : PySem.W.kitOne K (.type "tuple") (.type "tuple") = some true
  kll : PySem.W.kitOne K (.type "list") (.type "list") = some true
  klt : PySem.W.kitOne K (.type "list") (.type "tuple") = some false
  ktl : PySem.W.kitOne K (.type "tuple") (.type "list") = some false
  klb : PySem.W.kitOne K (.type "list") (.type "bool") = some false
  kbt : PySem.W.kitOne K (.type "bool") (.type "tuple") = some false
  kit : PySem.W.kitOne K (.type "int") (.type "tuple") = some false
  kss : PySem.W.kitOne K (.type "str") (.type "str") = some true
  knb : PySem.W.kitOne K (.type "NoneType") (.type "bool") = some false
  kni : PySem.W.kitOne K (.type "NoneType") (.type "int") = some false
  kbi : PySem.W.kitOne K (.type "bool") (.type "int") = some true
def spStir : Sp := fun vs H Q _ => ∃ c : Int, vs = [.int c] ∧ ∀ (r : Int) H', Same H H' → Q (.int r) H'
def spCell (K : PySem.W.Frag) : Sp := fun vs H Q _ => ∃ (a : Addr) (ns : List Int) (k : Nat), vs = [.ref a, .int (k : Int)] ∧ SqL K H a (ns.map V.int) ∧ ∀ (r : Int) H', Same H H' → Q (.int r) H'
def spDraw : Sp := fun vs H Q _ => ∃ c k b : Int, vs = [.int c, .int k, .int b] ∧ 0 < b ∧ ∀ r : Int, 0 ≤ r → r < b → Q (.int r) H
def spLeq (K : PySem.W.Frag) : Sp := fun vs H Q _ => ∃ (v : V) (n : Int) (ps : List (Int × Int)) (a b : Int), vs = [v, .int a, .int b] ∧ Rp K H v (spD n ps) ∧ ∀ (r : Bool) H', Same H H' → (r = true ↔ leqP ps a b) → Q (.bl r) H'
def spClosed (K : PySem.W.Frag) : Sp := fun vs H Q _ => ∃ (m : Nat) (p : Addr) (xs : List V) (ps : List (Int × Int)), vs = [.int (m : Int), .ref p] ∧ m ≤ 16 ∧ H p = some (.lst xs) ∧ RpAll K H xs (ps.map pD) ∧
  ∀ (v : V) (H' : Hp), Same H H' → Rp K H' v (.tuple ((clo m ps).map pD)) → Q v H'
def RetSpace (K : PySem.W.Frag) (H : Hp) (t : Int) (Q : VK) : Prop := ∀ (v : V) (H' : Hp) (m : Nat) (ts : List (Int × Int)), Same H H' → 1 ≤ m → (m : Int) ≤ t → IsSp m ts → Rp K H' v (spD m ts) → Q v H'
def spDig (K : PySem.W.Frag) : Sp := fun vs H Q _ => ∃ c t : Int, vs = [.int c, .int t] ∧ 1 ≤ t ∧ t ≤ 16 ∧ RetSpace K H t Q
def spSpace (K : PySem.W.Frag) : Sp := fun vs H Q _ => ∃ (a : Addr) (ns : List Int) (k : Nat) (t : Int), vs = [.ref a, .int (k : Int), .int t] ∧ SqL K H a (ns.map V.int) ∧ 1 ≤ t ∧ t ≤ 16 ∧ RetSpace K H t Q
section
variable {P : Program} {w : World} {K : PySem.W.Frag} {mg : Str → Option Value} {base : Heap}
theorem scStir : FnScope ["cell", "found", "factor", "mixed"] ["cell"] (defScope sStir) := ⟨rfl, rfl, rfl, by decide +kernel, rfl, by decide +kernel, by decide +kernel⟩
theorem ok_stir {f : Addr} {fd : FuncData} (F : Fun K "_law_stir" "_law_stir" sStir f fd) : FnOk P w K mg base CX0 1 f fd ["cell"] spStir := by
  refine F.ok scStir (fun vs H Q E h => ?_) (fun cdv A outer s H vs Q E hr h => ?_)
  · obtain ⟨c, rfl, _⟩ := h; rfl
  · obtain ⟨c, rfl, k⟩ := h
    refine ⟨_, pss_cons (ps_set (i := 1) scStir.nd rfl (Or.inl rfl) pe_int)
      (pss_cons (ps_for PassesOwn.never rfl (pi_list (pe_lst (pa_cons pe_int (pa_cons pe_int (pa_cons pe_int (pa_cons pe_int pa_nil)))))) (pg_name (i := 2) scStir.nd rfl (Or.inl rfl))
        (pss_cons (ps_set (i := 3) scStir.nd rfl (Or.inl rfl) (pe_op op_mod (pe_op op_add (pe_op op_mul (pv 0) (pv 2)) pe_int) pe_int))
        (pss_cons (ps_set (i := 3) scStir.nd rfl (Or.inl rfl) (pe_op op_mod (pe_op op_mul (pe_op op_mod (pe_op op_mul (pv 3) (pv 3)) pe_int) pe_int) pe_int))
        (pss_one (ps_set (i := 1) scStir.nd rfl (Or.inl rfl) (pe_op op_add (pe_op op_mul (pv 1) (pe_op op_pow pe_int pe_int)) (pe_op op_fdiv (pv 3) pe_int)))))))
      (pss_one (ps_ret (pv 1)))), ?_⟩
    refine ⟨szle (by show 4 ≤ 100000; decide), fun p hp => ⟨p, rfl, ⟨_, SqL.of upd_same⟩, for_list (K := K) (a := p) (xs := [.int 48271, .int 69621, .int 39373, .int 44488])
      (fun i σ H2 => ∃ (r : Int) (f m : Option V), σ = [some (.int c), some (.int r), f, m] ∧ H2 = upd H p (.lst [.int 48271, .int 69621, .int 39373, .int 44488]))
      ⟨0, none, none, rfl, rfl⟩ (fun i σ H2 _ ⟨_, _, _, _, e⟩ => by rw [e]; exact SqL.of upd_same) ?_ ?_⟩⟩
    · rintro i y σ H2 hi ⟨r, f, m, rfl, rfl⟩
      obtain ⟨z, rfl, hz1, hz2⟩ : ∃ z : Int, y = .int z ∧ 0 < z ∧ z < 2 ^ 32 := by
        have hm := List.mem_of_getElem? hi
        simp only [List.mem_cons, List.not_mem_nil, or_false] at hm
        rcases hm with rfl | rfl | rfl | rfl <;> exact ⟨_, rfl, by decide, by decide⟩
      refine ⟨_, rfl, _, rfl, _, _, rfl, rfl, .inr ⟨by omega, by omega⟩, _, _, rfl, rfl, _, _, rfl, rfl, (by show (0 : Int) < 2147483647; decide), ?_⟩
      refine ⟨_, rfl, _, rfl, _, _, rfl, rfl, .inl (modB _ _ (by decide) (by decide)), _, _, rfl, rfl, (by show (0 : Int) < 2147483647; decide), _, _, rfl, rfl, .inr ⟨by decide, by decide⟩, _, _, rfl, rfl, (by show (0 : Int) < 2147483399; decide), ?_⟩
      refine ⟨_, rfl, _, _, rfl, rfl, ⟨by decide, by decide, by decide⟩, _, _, rfl, rfl, .inr ⟨by decide, by decide⟩, _, rfl, _, _, rfl, rfl, ⟨by decide, by decide⟩, _, _, rfl, rfl, ?_⟩
      exact ⟨_, _, _, rfl, rfl⟩
    · rintro σ H2 ⟨r, f, m, rfl, rfl⟩
      exact ⟨_, rfl, k r _ (Same.new hp)⟩
theorem scCell : FnScope ["script", "k"] ["script", "k"] (defScope sCell) := ⟨rfl, rfl, rfl, by decide +kernel, rfl, by decide +kernel, by decide +kernel⟩
theorem ok_cell {f : Addr} {fd : FuncData} (F : Fun K "_law_cell" "_law_cell" sCell f fd) (T : Txt K mg) (GS : Fn P w K mg base "_law_stir" 1 ["cell"] spStir) : FnOk P w K mg base CX0 2 f fd ["script", "k"] (spCell K) := by
  refine F.ok scCell (fun vs H Q E h => ?_) (fun cdv A outer s H vs Q E hr h => ?_)
  · obtain ⟨a, ns, k, rfl, _⟩ := h; rfl
  · obtain ⟨a, ns, j, rfl, hS, k⟩ := h
    refine ⟨_, pss_cons (ps_if (pt_cmpR op_lt (pv 1) (pe_callB call_len_seq (by rfl) T.len bt_len (pa_cons (pv 0) pa_nil)) (nomark _)) (pss_one (ps_ret (pe_fn GS hr (pa_cons (pe_ix ix_list (pv 0) (pv 1) (fun _ _ => rfl)) pa_nil)))) pss_nil)
      (pss_one (ps_ret (pe_fn GS hr (pa_cons pe_int pa_nil)))), ?_⟩
    refine ⟨_, rfl, _, rfl, a, _, rfl, .inl hS, _, _, rfl, rfl, _, rfl, ?_⟩
    refine ite2 (fun e => ?_) (fun e => ?_)
    · have hj : j < ns.length := by
        have := of_decide_eq_true e
        rw [List.length_map] at this
        omega
      refine ⟨_, rfl, _, rfl, a, _, _, _, rfl, rfl, hS, atI_nat (j := j) (v := .int ns[j]) (by simp [hj]), ?_⟩
      exact ⟨_, rfl, k⟩
    · exact ⟨0, rfl, k⟩
theorem scRaw : FnScope ["script", "k"] ["script", "k"] (defScope sRaw) := ⟨rfl, rfl, rfl, by decide +kernel, rfl, by decide +kernel, by decide +kernel⟩
theorem ok_raw {f : Addr} {fd : FuncData} (F : Fun K "_law_raw" "_law_raw" sRaw f fd) (T : Txt K mg) : FnOk P w K mg base CX0 1 f fd ["script", "k"] (spCell K) := by
  refine F.ok scRaw (fun vs H Q E h => ?_) (fun cdv A outer s H vs Q E hr h => ?_)
  · obtain ⟨a, ns, k, rfl, _⟩ := h; rfl
  · obtain ⟨a, ns, j, rfl, hS, k⟩ := h
    refine ⟨_, pss_cons (ps_if (pt_cmpR op_lt (pv 1) (pe_callB call_len_seq (by rfl) T.len bt_len (pa_cons (pv 0) pa_nil)) (nomark _)) (pss_one (ps_ret (pe_ix ix_list (pv 0) (pv 1) (fun _ _ => rfl)))) pss_nil)
      (pss_one (ps_ret pe_int)), ?_⟩
    refine ⟨_, rfl, _, rfl, a, _, rfl, .inl hS, _, _, rfl, rfl, _, rfl, ?_⟩
    refine ite2 (fun e => ?_) (fun e => ?_)
    · have hj : j < ns.length := by
        have := of_decide_eq_true e
        rw [List.length_map] at this
        omega
      exact ⟨_, rfl, _, rfl, a, _, _, _, rfl, rfl, hS, atI_nat (j := j) (v := .int ns[j]) (by simp [hj]), k _ _ (Same.refl _)⟩
    · exact k _ _ (Same.refl _)
theorem scDraw : FnScope ["cell", "k", "bound", "stir"] ["cell", "k", "bound"] (defScope sDraw) := ⟨rfl, rfl, rfl, by decide +kernel, rfl, by decide +kernel, by decide +kernel⟩
theorem ok_draw {f : Addr} {fd : FuncData} (F : Fun K "_law_draw" "_law_draw" sDraw f fd) : FnOk P w K mg base CX0 1 f fd ["cell", "k", "bound"] spDraw := by
  refine F.ok scDraw (fun vs H Q E h => ?_) (fun cdv A outer s H vs Q E hr h => ?_)
  · obtain ⟨c, k, b, rfl, _⟩ := h; rfl
  · obtain ⟨c, j, b, rfl, hb, k⟩ := h
    refine ⟨_, pss_cons (ps_set (i := 3) scDraw.nd rfl (Or.inl rfl) (pe_op op_mod (pe_op op_add (pe_op op_add (pe_op op_mod (pv 0) pe_int) pe_int) (pe_op op_mul (pv 1) pe_int)) pe_int))
      (pss_cons (ps_set (i := 3) scDraw.nd rfl (Or.inl rfl) (pe_op op_mod (pe_op op_mul (pe_op op_mod (pe_op op_mul (pv 3) (pv 3)) pe_int) pe_int) pe_int))
      (pss_cons (ps_set (i := 3) scDraw.nd rfl (Or.inl rfl) (pe_op op_mod (pe_op op_mul (pe_op op_mod (pe_op op_mul (pv 3) (pv 3)) pe_int) pe_int) pe_int))
      (pss_one (ps_ret (pe_op op_mod (pe_op op_fdiv (pv 3) pe_int) (pv 2)))))), ?_⟩
    refine ⟨_, rfl, _, _, rfl, rfl, (by show (0 : Int) < 2147483629; decide), _, _, rfl, rfl, _, rfl, _, _, rfl, rfl, .inr ⟨by decide, by decide⟩, _, _, rfl, rfl, _, _, rfl, rfl, (by show (0 : Int) < 2147483647; decide), ?_⟩
    refine ⟨_, rfl, _, rfl, _, _, rfl, rfl, .inl (modB _ _ (by decide) (by decide)), _, _, rfl, rfl, (by show (0 : Int) < 2147483647; decide), _, _, rfl, rfl, .inr ⟨by decide, by decide⟩, _, _, rfl, rfl, (by show (0 : Int) < 2147483629; decide), ?_⟩
    refine ⟨_, rfl, _, rfl, _, _, rfl, rfl, .inl (modB _ _ (by decide) (by decide)), _, _, rfl, rfl, (by show (0 : Int) < 2147483629; decide), _, _, rfl, rfl, .inr ⟨by decide, by decide⟩, _, _, rfl, rfl, (by show (0 : Int) < 2147483399; decide), ?_⟩
    refine ⟨_, rfl, _, _, rfl, rfl, ⟨by decide, by decide⟩, _, rfl, _, _, rfl, rfl, hb, ?_⟩
    exact k _ (Int.emod_nonneg _ (Int.ne_of_gt hb)) (Int.emod_lt_of_pos _ hb)
end
def rowV (m : Nat) (t : Rel) (i : Nat) : List V := (List.range m).map fun (j : Nat) => V.bl (t i j)
theorem rowV_len (m : Nat) (t : Rel) (i : Nat) : (rowV m t i).length = m := by unfold rowV; simp
def setR (t : Rel) (a b : Nat) : Rel := fun x y => if x = a ∧ y = b then true else t x y
theorem rowV_set {m : Nat} {t : Rel} {a b : Nat} : (rowV m t a).set b (V.bl true) = rowV m (setR t a b) a := by
  refine List.ext_getElem? fun i => ?_
  unfold rowV
  rw [List.getElem?_set]
  by_cases hi : b = i
  · subst hi
    rw [if_pos rfl]
    by_cases hb : b < m
    · simp [hb, setR]
    · simp [hb]
  · rw [if_neg hi]
    by_cases hm : i < m
    · have : ¬ i = b := fun z => hi z.symm
      simp [hm, setR, this]
    · simp [hm]
theorem rowV_other {m : Nat} {t : Rel} {a b i : Nat} (h : i ≠ a) : rowV m (setR t a b) i = rowV m t i := by
  unfold rowV setR
  exact List.map_congr_left fun j _ => by simp [h]
structure Tb (H0 H : Hp) (D : Addr) (rs : List Addr) (m : Nat) (t : Rel) : Prop where
  same : Same H0 H
  out : H0 D = none
  tab : H D = some (.lst (rs.map V.ref))
  nD : ∀ r ∈ rs, r ≠ D
  nd : rs.Nodup
  row : ∀ (i : Nat) (r : Addr), rs[i]? = some r → H0 r = none ∧ H r = some (.lst (rowV m t i))
theorem Tb.mono {H0 H H' : Hp} {D : Addr} {rs : List Addr} {m : Nat} {t : Rel} (b : Tb H0 H D rs m t) (s : Same H H') : Tb H0 H' D rs m t :=
  ⟨b.same.trans s, b.out, s _ _ b.tab, b.nD, b.nd, fun i r hr => let ⟨h1, h2⟩ := b.row i r hr; ⟨h1, s _ _ h2⟩⟩
theorem Tb.put {H0 H : Hp} {D : Addr} {rs : List Addr} {m : Nat} {t : Rel} {l : Addr} {o : HO} (b : Tb H0 H D rs m t) (h0 : H0 l = none) (h1 : D ≠ l) (h2 : ∀ r ∈ rs, r ≠ l) : Tb H0 (upd H l o) D rs m t :=
  ⟨b.same.put h0, b.out, by rw [upd_ne h1]; exact b.tab, b.nD, b.nd, fun i r hr => let ⟨h3, h4⟩ := b.row i r hr; ⟨h3, by rw [upd_ne (h2 r (List.mem_of_getElem? hr))]; exact h4⟩⟩
theorem nodup_atA {os : List Addr} (nd : os.Nodup) {i j : Nat} {x : Addr} (h : os[i]? = some x) (h' : os[j]? = some x) : i = j := by
  obtain ⟨hi, ei⟩ := List.getElem?_eq_some_iff.mp h
  obtain ⟨hj, ej⟩ := List.getElem?_eq_some_iff.mp h'
  have pw := List.pairwise_iff_getElem.mp nd
  rcases Nat.lt_trichotomy i j with z | z | z
  · exact absurd (ei.trans ej.symm) (pw i j hi hj z)
  · exact z
  · exact absurd (ej.trans ei.symm) (pw j i hj hi z)
theorem Tb.set {H0 H : Hp} {D : Addr} {rs : List Addr} {m : Nat} {t : Rel} {r : Addr} {a b : Nat} (x : Tb H0 H D rs m t) (hr : rs[a]? = some r) : Tb H0 (upd H r (.lst ((rowV m t a).set b (V.bl true)))) D rs m (setR t a b) := by
  have hm := List.mem_of_getElem? hr
  refine ⟨x.same.put (x.row a r hr).1, x.out, by rw [upd_ne (x.nD r hm).symm]; exact x.tab, x.nD, x.nd, fun i q hq => ⟨(x.row i q hq).1, ?_⟩⟩
  by_cases e : q = r
  · subst e
    have := nodup_atA x.nd hq hr
    subst this
    rw [upd_same, rowV_set]
  · have ne : i ≠ a := fun z => by subst z; rw [hr] at hq; cases hq; exact e rfl
    rw [upd_ne e, rowV_other ne]
    exact (x.row i q hq).2
theorem Tb.at {H0 H : Hp} {D : Addr} {rs : List Addr} {m : Nat} {t : Rel} (x : Tb H0 H D rs m t) (hm : rs.length = m) {a : Nat} (ha : a < m) : ∃ r, rs[a]? = some r ∧ atI (rs.map V.ref) (a : Int) = some (.ref r) ∧ H r = some (.lst (rowV m t a)) ∧ ∀ b : Nat, b < m → atI (rowV m t a) (b : Int) = some (.bl (t a b)) := by
  have ha' : a < rs.length := by omega
  refine ⟨rs[a], by simp [ha'], atI_nat (by simp [ha']), (x.row a rs[a] (by simp [ha'])).2, fun b hb => atI_nat ?_⟩
  unfold rowV
  simp [hb]
theorem stp_set {t : Rel} {k a b : Nat} (h1 : t a k = true) (h2 : t k b = true) : stp t k a b = setR t a b := by
  unfold stp setR
  rw [h1, h2]
  rfl
theorem stp_not1 {t : Rel} {k a b : Nat} (h1 : ¬ t a k = true) : stp t k a b = t := by
  unfold stp
  rw [Bool.eq_false_iff.mpr h1]
  rfl
theorem stp_not2 {t : Rel} {k a b : Nat} (h1 : ¬ t k b = true) : stp t k a b = t := by
  unfold stp
  rw [Bool.eq_false_iff.mpr h1, Bool.and_false]
  rfl
theorem part_snoc {t : Rel} {a j : Nat} : (((List.range (j + 1)).filter (t a)).map fun (b : Nat) => ((a : Int), (b : Int))) = (((List.range j).filter (t a)).map fun (b : Nat) => ((a : Int), (b : Int))) ++ (if t a j = true then [((a : Int), (j : Int))] else []) := by
  rw [List.range_succ, List.filter_append, List.map_append]
  congr 1
  by_cases h : t a j = true
  · rw [if_pos h, List.filter_cons_of_pos h]; rfl
  · rw [if_neg h, List.filter_cons_of_neg h]; rfl
section
variable {P : Program} {w : World} {K : PySem.W.Frag} {mg : Str → Option Value} {base : Heap}
theorem nd1 : (["a", "many", "pairs"] : List Str).Nodup := by decide +kernel
theorem nd2 : (["b", "a", "pairs"] : List Str).Nodup := by decide +kernel
theorem nd3 : (["b", "a", "table"] : List Str).Nodup := by decide +kernel
theorem scClosed : FnScope ["many", "pairs", "table", "k", "a", "b", "found"] ["many", "pairs"] (defScope sClosed) := ⟨rfl, rfl, rfl, by decide +kernel, rfl, by decide +kernel, by decide +kernel⟩
abbrev Cl1 (H : Hp) (D p : Addr) (m : Nat) (ps : List (Int × Int)) (i : Nat) (σ : St) (acc : List V) (H1 : Hp) : Prop := ∃ (rs : List Addr) (va : Option V), σ = [va, some (.int m), some (.ref p)] ∧ acc = rs.map V.ref ∧ Tb H H1 D rs m (t0 ps) ∧ rs.length = i
abbrev Cl2 (H1 : Hp) (D2 p : Addr) (ps : List (Int × Int)) (i j : Nat) (σ2 : St) (acc2 : List V) (H2 : Hp) : Prop := ∃ (vb : Option V), σ2 = [vb, some (.int i), some (.ref p)] ∧ acc2 = ((List.range j).map fun (y : Nat) => V.bl (t0 ps i y)) ∧ Same H1 H2 ∧ H2 D2 = some (.lst acc2)
abbrev Cl3 (H : Hp) (D p : Addr) (m : Nat) (rs : List Addr) (ps : List (Int × Int)) (i : Nat) (σ : St) (H2 : Hp) : Prop := ∃ vk va vb, σ = [some (.int m), some (.ref p), some (.ref D), vk, va, vb, none] ∧ Tb H H2 D rs m (w1 m (t0 ps) i)
abbrev Cl4 (H : Hp) (D p : Addr) (m : Nat) (rs : List Addr) (ps : List (Int × Int)) (kk : Nat) (i : Nat) (σ : St) (H3 : Hp) : Prop := ∃ va vb, σ = [some (.int m), some (.ref p), some (.ref D), some (.int kk), va, vb, none] ∧ Tb H H3 D rs m (w2 m (w1 m (t0 ps) kk) kk i)
abbrev Cl5 (H : Hp) (D p : Addr) (m : Nat) (rs : List Addr) (ps : List (Int × Int)) (kk aa : Nat) (i : Nat) (σ : St) (H4 : Hp) : Prop := ∃ vb, σ = [some (.int m), some (.ref p), some (.ref D), some (.int kk), some (.int aa), vb, none] ∧ Tb H H4 D rs m (w3 (w2 m (w1 m (t0 ps) kk) kk aa) kk aa i)
abbrev Cl6 (K : PySem.W.Frag) (H : Hp) (D p fl : Addr) (m : Nat) (rs : List Addr) (vk vb : Option V) (cl : Nat → Nat → Bool) (i : Nat) (σ : St) (H3 : Hp) : Prop := ∃ (va : Option V) (ws : List V), σ = [some (.int m), some (.ref p), some (.ref D), vk, va, vb, some (.ref fl)] ∧ Tb H H3 D rs m cl ∧ H3 fl = some (.lst ws) ∧ RpAll K H3 ws (((List.range i).flatMap (rowOf m cl)).map pD)
set_option maxHeartbeats 16000000 in
theorem ok_closed {f : Addr} {fd : FuncData} (F : Fun K "_law_closed" "_law_closed" sClosed f fd) (T : Txt K mg) : FnOk P w K mg base CX0 1 f fd ["many", "pairs"] (spClosed K) := by
  refine F.ok scClosed (fun vs H Q E h => ?_) (fun cdv A outer s H vs Q E hr h => ?_)
  · obtain ⟨m, p, xs, ps, rfl, _⟩ := h; rfl
  · obtain ⟨m, p, xs, ps, rfl, hm, hp, hps, k⟩ := h
    refine ⟨_, pss_cons (ps_set (i := 2) scClosed.nd rfl (Or.inr rfl) (pe_lcomp (N' := ["a", "many", "pairs"]) rfl (.own (.cap 0 rfl rfl rfl (.cap 1 rfl rfl rfl .nil))) (pi_range1 (by rfl) T.range (pa_cons (pv 0) pa_nil))
        (fun s H fp => pg_name (i := 0) nd1 rfl (Or.inr rfl)) (fun s H fp => pif_nil)
        (fun s H fp => pe_lcomp (N' := ["b", "a", "pairs"]) rfl (.own (.cap 0 rfl rfl rfl (.cap 2 rfl rfl rfl .nil))) (pi_range1 (by rfl) T.range (pa_cons (pv 1) pa_nil))
          (fun s H fp => pg_name (i := 0) nd2 rfl (Or.inl rfl)) (fun s H fp => pif_nil)
          (fun s H fp => pe_and (pe_cmpR (op_inK K (room_u hr (by decide))) (pe_tup (pa_cons (pv 1) (pa_cons (pv 0) pa_nil))) (pv 2) rfl) (pe_one (pe_cmpR op_ne (pv 1) (pv 0) (nomark _)))))))
      (pss_cons (ps_for PassesOwn.never rfl (pi_range1 (by rfl) T.range (pa_cons (pv 0) pa_nil)) (pg_name (i := 3) scClosed.nd rfl (Or.inl rfl))
        (pss_one (ps_for PassesOwn.never rfl (pi_range1 (by rfl) T.range (pa_cons (pv 0) pa_nil)) (pg_name (i := 4) scClosed.nd rfl (Or.inr rfl))
          (pss_one (ps_for PassesOwn.never rfl (pi_range1 (by rfl) T.range (pa_cons (pv 0) pa_nil)) (pg_name (i := 5) scClosed.nd rfl (Or.inl rfl))
            (pss_one (ps_if (pw_and (pt_val (pe_ix ix_list (pe_ix ix_list (pv 2) (pv 4) (fun _ _ => rfl)) (pv 3) (fun _ _ => rfl))) (pw_and1 (pt_val (pe_ix ix_list (pe_ix ix_list (pv 2) (pv 3) (fun _ _ => rfl)) (pv 5) (fun _ _ => rfl))))).pt
              (pss_one (ps_asg pe_bl (pg_sub (pe_ix ix_list (pv 2) (pv 4) (fun _ _ => rfl)) (pv 5) set_list))) pss_nil)))))))
      (pss_cons (ps_set (i := 6) scClosed.nd rfl (Or.inl rfl) (pe_lst pa_nil))
      (pss_cons (ps_for PassesOwn.never rfl (pi_range1 (by rfl) T.range (pa_cons (pv 0) pa_nil)) (pg_name (i := 4) scClosed.nd rfl (Or.inr rfl))
        (pss_one (ps_expr (pe_bm PySem.F.plainAttrs_list PySem.F.slot_list_extend PySem.F.type_list_extend mt_extend (pv 6)
          (pa_cons (pe_lcomp (N' := ["b", "a", "table"]) rfl (.own (.cap 4 rfl rfl rfl (.cap 2 rfl rfl rfl .nil))) (pi_range1 (by rfl) T.range (pa_cons (pv 0) pa_nil))
            (fun s H fp => pg_name (i := 0) nd3 rfl (Or.inl rfl)) (fun s H fp => pif_one (pt_val (pe_ix (ix_listK K) (pe_ix (ix_listK K) (pv 2) (pv 1) (fun _ _ => rfl)) (pv 0) (fun _ _ => rfl))))
            (fun s H fp => pe_tup (pa_cons (pv 1) (pa_cons (pv 0) pa_nil)))) pa_nil)))))
      (pss_one (ps_ret (pe_callTy call_tuple_of (by rfl) T.tuple bt_tuple (pa_cons (pv 6) pa_nil))))))), ?_⟩
    try dsimp only [cxOf]
    refine ⟨_, rfl, (m : Int), rfl, by omega, by omega, fun D hD => ?_⟩
    refine lc_range0 (n := m) (Cl1 H D p m ps) ⟨[], none, rfl, rfl, ⟨Same.new hD, hD, upd_same, (fun r hr => nomatch hr), List.nodup_nil, (fun i r hr => by simp at hr)⟩, rfl⟩ ?_ ?_
    · rintro i σ acc H1 hi ⟨rs, va, rfl, rfl, t, hl⟩
      refine ⟨_, rfl, (m : Int), rfl, by omega, by omega, fun D2 hD2 => ?_⟩
      refine lc_range0 (n := m) (Cl2 H1 D2 p ps i) ⟨none, rfl, rfl, Same.new hD2, upd_same⟩ ?_ ?_
      · rintro j σ2 acc2 H2 hj ⟨vb, rfl, rfl, s2, h2⟩
        refine ⟨_, rfl, _, rfl, szle (by show 2 ≤ 100000; decide), fun q hq => ?_⟩
        have s3 : Same H (upd H2 q (.tup [.int (i : Int), .int (j : Int)])) := t.same.trans (s2.trans (Same.new hq))
        have fin : ∀ c : Bool, c = t0 ps i j → (upd H2 q (.tup [.int (i : Int), .int (j : Int)])) D2 = some (.lst ((List.range j).map fun (y : Nat) => V.bl (t0 ps i y))) ∧ ((List.range j).map fun (y : Nat) => V.bl (t0 ps i y)).length < sizeLine ∧ Cl2 H1 D2 p ps i (j + 1) [some (V.int j), some (V.int i), some (V.ref p)] (((List.range j).map fun (y : Nat) => V.bl (t0 ps i y)) ++ [V.bl c]) (upd (upd H2 q (.tup [.int (i : Int), .int (j : Int)])) D2 (.lst (((List.range j).map fun (y : Nat) => V.bl (t0 ps i y)) ++ [V.bl c]))) := fun c hc =>
          ⟨by rw [upd_ne (ne_of_none h2 hq)]; exact h2, szlt (by rw [List.length_map, List.length_range]; omega), _, rfl, by rw [hc, List.range_succ, List.map_append]; rfl, (s2.trans (Same.new hq)).put hD2, upd_same⟩
        refine ⟨_, rfl, p, xs, ps.map pD, pD ((i : Int), (j : Int)), rfl, .inl (SqL.of (s3 _ _ hp)), RpAll.same s3 hps, mkPair upd_same, lay_pairs ps, rfl, Nat.le_trans (depth_pD ((i : Int), (j : Int))) (by decide), _, rfl, ?_⟩
        rw [any_pD]
        refine ite2 (fun e => ?_) (fun e => fin false ?_)
        · refine ⟨_, rfl, _, rfl, rfl, fin _ ?_⟩
          have e := of_decide_eq_true e
          unfold t0
          by_cases hij : i = j
          · subst hij; simp
          · have h1 : ¬ (V.int (i : Int) = V.int (j : Int)) := fun z => hij (Int.ofNat.inj (V.int.inj z))
            rw [decide_eq_false h1, decide_eq_true (show ((i : Int), (j : Int)) ∈ ps ∧ i ≠ j from ⟨e, hij⟩)]
            rfl
        · unfold t0
          rw [decide_eq_false]
          intro z
          exact e (decide_eq_true z.1)
      · rintro σ2 acc2 H2 ⟨vb, rfl, rfl, s2, h2⟩
        have hDD : D ≠ D2 := ne_of_none t.tab hD2
        have t2 := t.mono s2
        have nw : ∀ r ∈ rs, r ≠ D2 := fun r hr => by
          obtain ⟨z, hz⟩ := List.mem_iff_getElem?.mp hr
          exact ne_of_none (t.row z r hz).2 hD2
        refine ⟨t2.tab, szlt (by rw [List.length_map]; omega), rs ++ [D2], _, rfl, by simp, ⟨t2.same.put hD, hD, by rw [upd_same]; simp, fun r hr => ?_, ?_, fun z r hr => ?_⟩, by simp [hl]⟩
        · rcases List.mem_append.mp hr with z | z
          · exact t.nD r z
          · rw [List.mem_singleton.mp z]; exact hDD.symm
        · refine List.nodup_append.mpr ⟨t.nd, by simp, fun a ha b hb => ?_⟩
          rw [List.mem_singleton.mp hb]
          exact nw a ha
        · by_cases hz : z < rs.length
          · rw [List.getElem?_append_left hz] at hr
            obtain ⟨h3, h4⟩ := t2.row z r hr
            exact ⟨h3, by rw [upd_ne (t.nD r (List.mem_of_getElem? hr))]; exact h4⟩
          · rw [List.getElem?_append_right (by omega)] at hr
            have hz0 : z - rs.length = 0 := by
              have := (List.getElem?_eq_some_iff.mp hr).1
              simp at this; omega
            rw [hz0] at hr
            have hr : D2 = r := by simpa using hr
            subst hr
            have : z = i := by omega
            subst this
            exact ⟨t.same.free hD2, by rw [upd_ne hDD.symm]; exact h2⟩
    rintro σ acc H1 ⟨rs, va, rfl, rfl, t, hl⟩
    refine ⟨_, rfl, (m : Int), rfl, by omega, by omega, for_range0 (n := m) (Cl3 H D p m rs ps) ⟨none, none, none, rfl, t⟩ ?_ ?_⟩
    · rintro kk σ H2 hk ⟨vk, va, vb, rfl, t2⟩
      refine ⟨_, rfl, (m : Int), rfl, by omega, by omega, for_range0 (n := m) (Cl4 H D p m rs ps kk) ⟨va, vb, rfl, t2⟩ ?_ ?_⟩
      · rintro aa σ H3 ha ⟨va, vb, rfl, t3⟩
        refine ⟨_, rfl, (m : Int), rfl, by omega, by omega, for_range0 (n := m) (Cl5 H D p m rs ps kk aa) ⟨vb, rfl, t3⟩ ?_ ?_⟩
        · rintro bb σ H4 hb ⟨vb, rfl, t4⟩
          obtain ⟨ra, hra, ea, ha4, ga⟩ := t4.at hl ha
          obtain ⟨rk, hrk, ek, hk4, gk⟩ := t4.at hl hk
          have e1 := ga kk hk
          have e2 := gk bb hb
          refine ⟨_, rfl, _, rfl, D, _, _, _, rfl, rfl, SqL.of t4.tab, ea, _, rfl, ra, _, _, _, rfl, rfl, SqL.of ha4, e1, _, rfl, ?_⟩
          refine ite2 (fun c1 => ?_) (fun c1 => ⟨_, rfl, ?_⟩)
          · refine ⟨_, rfl, _, rfl, D, _, _, _, rfl, rfl, SqL.of t4.tab, ek, _, rfl, rk, _, _, _, rfl, rfl, SqL.of hk4, e2, _, rfl, ?_⟩
            refine ite2 (fun c2 => ?_) (fun c2 => ⟨_, rfl, ?_⟩)
            · refine ⟨_, rfl, _, rfl, D, _, _, _, rfl, rfl, SqL.of t4.tab, ea, _, rfl, ra, _, _, bb, rfl, rfl, ha4, ixN_nat (by rw [rowV_len]; omega), ?_⟩
              refine ⟨_, rfl, ?_⟩
              show Tb H _ D rs m (stp _ kk aa bb)
              rw [stp_set c1 c2]
              exact t4.set hra
            · show Tb H H4 D rs m (stp _ kk aa bb)
              rw [stp_not2 c2]
              exact t4
          · show Tb H H4 D rs m (stp _ kk aa bb)
            rw [stp_not1 c1]
            exact t4
        · rintro σ H4 ⟨vb, rfl, t4⟩
          exact ⟨_, _, rfl, t4⟩
      · rintro σ H3 ⟨va, vb, rfl, t3⟩
        exact ⟨_, _, _, rfl, t3⟩
    rintro σ H2 ⟨vk, va, vb, rfl, t2⟩
    generalize hcl : w1 m (t0 ps) m = cl at t2
    refine ⟨szle (by show 0 ≤ 100000; decide), fun fl hf => ?_⟩
    have t3 : Tb H (upd H2 fl (.lst [])) D rs m cl := t2.mono (Same.new hf)
    have nfD : D ≠ fl := ne_of_none t2.tab hf
    have nfr : ∀ r ∈ rs, r ≠ fl := fun r hr => by
      obtain ⟨z, hz⟩ := List.mem_iff_getElem?.mp hr
      exact ne_of_none (t2.row z r hz).2 hf
    have hf0 : H fl = none := t2.same.free hf
    refine ⟨_, rfl, (m : Int), rfl, by omega, by omega, for_range0 (n := m) (Cl6 K H D p fl m rs vk vb cl)
      ⟨va, [], rfl, t3, upd_same, .nil⟩ ?_ ?_⟩
    · rintro aa σ H3 ha ⟨va, ws, rfl, t4, h4, r4⟩
      refine ⟨_, rfl, .inl ⟨rfl, _, SqL.of h4⟩, _, rfl, (m : Int), rfl, by omega, by omega, fun D2 hD2 => ?_⟩
      have l4 := pairsTo_len m cl aa
      have hmm : aa * m ≤ 16 * 16 := Nat.mul_le_mul (by omega) hm
      refine lc_range0 (n := m) (fun j σ2 acc H5 => ∃ (vb : Option V), σ2 = [vb, some (.int aa), some (.ref D)] ∧ Same H3 H5 ∧ H5 D2 = some (.lst acc) ∧ RpAll K H5 acc ((((List.range j).filter (cl aa)).map fun (b : Nat) => ((aa : Int), (b : Int))).map pD) ∧ acc.length ≤ j)
        ⟨none, rfl, Same.new hD2, upd_same, .nil, Nat.zero_le _⟩ ?_ ?_
      · rintro j σ2 acc H5 hj ⟨vb2, rfl, s5, h5, r5, l5⟩
        have t5 := t4.mono s5
        obtain ⟨ra, hra, ea, ha4, ga⟩ := t5.at hl ha
        refine ⟨_, rfl, _, rfl, D, _, _, _, rfl, rfl, SqL.of t5.tab, ea, _, rfl, ra, _, _, _, rfl, rfl, SqL.of ha4, ga j hj, _, rfl, ?_⟩
        refine ite2 (fun c => ?_) (fun c => ⟨_, rfl, s5, h5, ?_, by omega⟩)
        · refine ⟨_, rfl, _, rfl, szle (by show 2 ≤ 100000; decide), fun q hq => ?_⟩
          refine ⟨by rw [upd_ne (ne_of_none h5 hq)]; exact h5, szlt (by omega), _, rfl, (s5.trans (Same.new hq)).put hD2, upd_same, ?_, ?_⟩
          · rw [part_snoc, if_pos c, List.map_append]
            have hl5 : (upd H5 q (HO.tup [V.int aa, V.int j])) D2 = some (.lst acc) := by rw [upd_ne (ne_of_none h5 hq)]; exact h5
            exact RpAll.append (RpAll.keep ((TK.new hq).trans (TK.lst hl5)) r5 (imm_pairs _)) (.one (mkPair (by rw [upd_ne (ne_of_none h5 hq).symm]; exact upd_same)))
          · rw [List.length_append, List.length_singleton]; omega
        · rw [part_snoc, if_neg c, List.append_nil]
          exact r5
      · rintro σ2 acc H5 ⟨vb2, rfl, s5, h5, r5, l5⟩
        have wl : ws.length = ((List.range aa).flatMap (rowOf m cl)).length := by rw [r4.len, List.length_map]
        have h6 := s5 _ _ h4
        refine ⟨fl, D2, ws, acc, rfl, rfl, h6, h5, szle (by omega), _, ws ++ acc, rfl, (t4.mono s5).put hf0 nfD nfr, upd_same, ?_⟩
        rw [List.range_succ, List.flatMap_append, List.map_append]
        simp only [List.flatMap_cons, List.flatMap_nil, List.append_nil]
        exact RpAll.append (RpAll.keep (s5.tk.trans (TK.lst h6)) r4 (imm_pairs _)) (RpAll.keep (TK.lst h6) r5 (imm_pairs _))
    · rintro σ H3 ⟨va, ws, rfl, t4, h4, r4⟩
      refine ⟨_, rfl, fl, ws, rfl, .inl ⟨SqL.of h4, fun l hl => ?_⟩⟩
      refine k _ _ (t4.same.trans (Same.new hl)) (.tup upd_same (RpAll.keep (TK.new hl) ?_ (imm_pairs _)))
      show RpAll K H3 ws ((pairsOf m (w1 m (t0 ps) m)).map pD)
      rw [hcl]
      exact r4
end
theorem mod_many (c t : Int) (h1 : 1 ≤ t) (h2 : t ≤ 16) : ∃ m : Nat, 1 + c % t = (m : Int) ∧ 1 ≤ m ∧ (m : Int) ≤ t := by
  have a := Int.emod_nonneg c (show t ≠ 0 by omega)
  have b := Int.emod_lt_of_pos c (show 0 < t by omega)
  exact ⟨(1 + c % t).toNat, by omega, by omega, by omega⟩
theorem up_snoc {os : List Int} {ps : List (Int × Int)} {i j : Nat} (h : ∀ q ∈ ps, Up os q) (hji : j < i) (hj : j < os.length) (hi : i < os.length) : ∀ q ∈ ps ++ [(os[j], os[i])], Up os q := fun q hq => by
  rcases List.mem_append.mp hq with z | z
  · exact h q z
  · rw [List.mem_singleton.mp z]
    exact ⟨j, i, hji, by simp [hj], by simp [hi]⟩
theorem erase_perm : ∀ (l : List Int) (k : Nat) (h : k < l.length), (l[k] :: l.eraseIdx k).Perm l
  | [], _, h => absurd h (Nat.not_lt_zero _)
  | a :: l, 0, _ => List.Perm.refl _
  | a :: l, k + 1, h => by
    have h' : k < l.length := Nat.lt_of_succ_lt_succ h
    show (l[k] :: a :: l.eraseIdx k).Perm (a :: l)
    exact (List.Perm.swap _ _ _).trans ((erase_perm l k h').cons a)
structure Two (H0 H : Hp) (fr od : Addr) (m : Nat) (fs os : List Int) : Prop where
  same : Same H0 H
  f0 : H0 fr = none
  o0 : H0 od = none
  ne : fr ≠ od
  hf : H fr = some (.lst (fs.map V.int))
  ho : H od = some (.lst (os.map V.int))
  rf : ∀ x ∈ fs, 0 ≤ x ∧ x < (m : Int)
  ro : ∀ x ∈ os, 0 ≤ x ∧ x < (m : Int)
  nd : (fs ++ os).Nodup
theorem nd_range (m : Nat) : (((List.range m).map fun (i : Nat) => (i : Int)) ++ []).Nodup := by
  rw [List.append_nil]
  refine List.Pairwise.map _ (fun a b h => ?_) List.nodup_range
  intro z
  exact h (Int.ofNat.inj z)
theorem rangeV_ints (n : Nat) : rangeV 0 n = ((List.range n).map fun (i : Nat) => (i : Int)).map V.int := by
  unfold rangeV
  rw [List.map_map]
  refine List.map_congr_left fun i _ => ?_
  show V.int (0 + (i : Int)) = V.int (i : Int)
  rw [Int.zero_add]
theorem Two.pop {H0 H H' : Hp} {fr od : Addr} {m : Nat} {fs os : List Int} (t : Two H0 H fr od m fs os) {k : Nat} (hk : k < fs.length) :
    Two H0 (upd (upd H fr (.lst ((fs.map V.int).eraseIdx k))) od (.lst (os.map V.int ++ [V.int fs[k]]))) fr od m (fs.eraseIdx k) (os ++ [fs[k]]) := by
  refine ⟨(t.same.put t.f0).put t.o0, t.f0, t.o0, t.ne, ?_, ?_, fun x hx => t.rf x (List.mem_of_mem_eraseIdx hx), fun x hx => ?_, ?_⟩
  · rw [upd_ne t.ne, upd_same, map_erase]
  · rw [upd_same]; simp
  · rcases List.mem_append.mp hx with z | z
    · exact t.ro x z
    · rw [List.mem_singleton.mp z]; exact t.rf _ (List.getElem_mem hk)
  · have pm : (fs.eraseIdx k ++ (os ++ [fs[k]])).Perm (fs ++ os) := by
      rw [← List.append_assoc]
      exact (List.perm_append_singleton _ _).trans ((erase_perm fs k hk).append_right os)
    exact pm.nodup_iff.mpr t.nd
abbrev Kdg (H : Hp) (t : Int) (m : Nat) (fr od : Addr) (i : Nat) (σ : St) (H3 : Hp) : Prop := ∃ (cc : Int) (vk : Option V) (fs os : List Int), σ = [some (.int cc), some (.int t), some (.int m), some (.ref fr), some (.ref od), vk, none, none, none] ∧ Two H H3 fr od m fs os ∧ fs.length + i = m ∧ os.length = i
abbrev Idg (K : PySem.W.Frag) (H : Hp) (t : Int) (m : Nat) (fr od : Addr) (vk : Option V) (pr : Addr) (os : List Int) (i : Nat) (σ : St) (H4 : Hp) : Prop := ∃ (cc : Int) (vi vj : Option V) (ps : List (Int × Int)) (ws : List V), σ = [some (.int cc), some (.int t), some (.int m), some (.ref fr), some (.ref od), vk, some (.ref pr), vi, vj] ∧ Same H H4 ∧ H4 od = some (.lst (os.map V.int)) ∧ H4 pr = some (.lst ws) ∧ RpAll K H4 ws (ps.map pD) ∧ ps.length ≤ 16 * i ∧ ∀ q ∈ ps, Up os q
abbrev Jdg (K : PySem.W.Frag) (H : Hp) (t : Int) (m : Nat) (fr od : Addr) (vk : Option V) (pr : Addr) (os : List Int) (i : Nat) (j : Nat) (σ : St) (H5 : Hp) : Prop := ∃ (cc : Int) (vj : Option V) (ps : List (Int × Int)) (ws : List V), σ = [some (.int cc), some (.int t), some (.int m), some (.ref fr), some (.ref od), vk, some (.ref pr), some (.int i), vj] ∧ Same H H5 ∧ H5 od = some (.lst (os.map V.int)) ∧ H5 pr = some (.lst ws) ∧ RpAll K H5 ws (ps.map pD) ∧ ps.length ≤ 16 * i + j ∧ ∀ q ∈ ps, Up os q
abbrev Kmx (H : Hp) (c t : Int) (m : Nat) (fr od : Addr) (i : Nat) (σ : St) (H3 : Hp) : Prop := ∃ (vk : Option V) (fs os : List Int), σ = [some (.int c), some (.int t), some (.int m), some (.ref fr), some (.ref od), vk, none, none, none, none, none, none] ∧ Two H H3 fr od m fs os ∧ fs.length + i = m ∧ os.length = i
abbrev Imx (K : PySem.W.Frag) (H : Hp) (c t : Int) (m : Nat) (fr od : Addr) (vk : Option V) (ra rb : Int) (pr : Addr) (os : List Int) (i : Nat) (σ : St) (H4 : Hp) : Prop := ∃ (vi vj vd : Option V) (ps : List (Int × Int)) (ws : List V), σ = [some (.int c), some (.int t), some (.int m), some (.ref fr), some (.ref od), vk, some (.int ra), some (.int rb), some (.ref pr), vi, vj, vd] ∧ Same H H4 ∧ H4 od = some (.lst (os.map V.int)) ∧ H4 pr = some (.lst ws) ∧ RpAll K H4 ws (ps.map pD) ∧ ps.length ≤ 16 * i ∧ ∀ q ∈ ps, Up os q
abbrev Jmx (K : PySem.W.Frag) (H : Hp) (c t : Int) (m : Nat) (fr od : Addr) (vk : Option V) (ra rb : Int) (pr : Addr) (os : List Int) (i : Nat) (j : Nat) (σ : St) (H5 : Hp) : Prop := ∃ (vj vd : Option V) (ps : List (Int × Int)) (ws : List V), σ = [some (.int c), some (.int t), some (.int m), some (.ref fr), some (.ref od), vk, some (.int ra), some (.int rb), some (.ref pr), some (.int i), vj, vd] ∧ Same H H5 ∧ H5 od = some (.lst (os.map V.int)) ∧ H5 pr = some (.lst ws) ∧ RpAll K H5 ws (ps.map pD) ∧ ps.length ≤ 16 * i + j ∧ ∀ q ∈ ps, Up os q
section
variable {P : Program} {w : World} {K : PySem.W.Frag} {mg : Str → Option Value} {base : Heap}
theorem scDig : FnScope ["cell", "most", "many", "free", "order", "k", "pairs", "i", "j"] ["cell", "most"] (defScope sDig) := ⟨rfl, rfl, rfl, by decide +kernel, rfl, by decide +kernel, by decide +kernel⟩
set_option maxHeartbeats 16000000 in
theorem ok_dig {f : Addr} {fd : FuncData} (F : Fun K "_law_by_digits" "_law_by_digits" sDig f fd) (T : Txt K mg) (GC : Fn P w K mg base "_law_closed" 1 ["many", "pairs"] (spClosed K)) : FnOk P w K mg base CX0 2 f fd ["cell", "most"] (spDig K) := by
  refine F.ok scDig (fun vs H Q E h => ?_) (fun cdv A outer s H vs Q E hr h => ?_)
  · obtain ⟨c, t, rfl, _⟩ := h; rfl
  · obtain ⟨c, t, rfl, ht1, ht2, k⟩ := h
    refine ⟨_, pss_cons (ps_set (i := 2) scDig.nd rfl (Or.inl rfl) (pe_op op_add pe_int (pe_op op_mod (pv 0) (pv 1))))
      (pss_cons (ps_set (i := 0) scDig.nd rfl (Or.inl rfl) (pe_op op_fdiv (pv 0) (pv 1)))
      (pss_cons (ps_set (i := 3) scDig.nd rfl (Or.inl rfl) (pe_callTy (call_list_rng rfl) (by rfl) T.list bt_list (pa_cons (pe_range1 (by rfl) T.range (pa_cons (pv 2) pa_nil)) pa_nil)))
      (pss_cons (ps_set (i := 4) scDig.nd rfl (Or.inl rfl) (pe_lst pa_nil))
      (pss_cons (ps_for PassesOwn.never rfl (pi_range1 (by rfl) T.range (pa_cons (pv 2) pa_nil)) (pg_name (i := 5) scDig.nd rfl (Or.inl rfl))
        (pss_cons (ps_expr (pe_bm PySem.F.plainAttrs_list PySem.F.slot_list_append PySem.F.type_list_append mt_append (pv 4)
          (pa_cons (pe_bm PySem.F.plainAttrs_list PySem.F.slot_list_pop PySem.F.type_list_pop mt_popAt (pv 3) (pa_cons (pe_op op_mod (pv 0) (pe_callB call_len_seq (by rfl) T.len bt_len (pa_cons (pv 3) pa_nil))) pa_nil)) pa_nil)))
        (pss_one (ps_set (i := 0) scDig.nd rfl (Or.inl rfl) (pe_op op_fdiv (pv 0) (pe_op op_sub (pv 2) (pv 5)))))))
      (pss_cons (ps_set (i := 6) scDig.nd rfl (Or.inl rfl) (pe_lst pa_nil))
      (pss_cons (ps_for PassesOwn.never rfl (pi_range1 (by rfl) T.range (pa_cons (pv 2) pa_nil)) (pg_name (i := 7) scDig.nd rfl (Or.inl rfl))
        (pss_one (ps_for PassesOwn.never rfl (pi_range1 (by rfl) T.range (pa_cons (pv 7) pa_nil)) (pg_name (i := 8) scDig.nd rfl (Or.inl rfl))
          (pss_cons (ps_if (pt_cmpR op_eq (pe_op op_mod (pv 0) pe_int) pe_int (nomark _))
            (pss_one (ps_expr (pe_bm PySem.F.plainAttrs_list PySem.F.slot_list_append PySem.F.type_list_append mt_append (pv 6)
              (pa_cons (pe_tup (pa_cons (pe_ix ix_list (pv 4) (pv 8) (fun _ _ => rfl)) (pa_cons (pe_ix ix_list (pv 4) (pv 7) (fun _ _ => rfl)) pa_nil))) pa_nil)))) pss_nil)
          (pss_one (ps_set (i := 0) scDig.nd rfl (Or.inl rfl) (pe_op op_fdiv (pv 0) pe_int)))))))
      (pss_one (ps_ret (pe_tup (pa_cons (pv 2) (pa_cons (pe_fn GC hr (pa_cons (pv 2) (pa_cons (pv 6) pa_nil))) pa_nil))))))))))), ?_⟩
    try dsimp only [cxOf]
    obtain ⟨m, em, hm1, hm2⟩ := mod_many c t ht1 ht2
    refine ⟨_, rfl, _, rfl, _, _, rfl, rfl, (by show (0 : Int) < t; omega), _, _, rfl, rfl, ?_⟩
    dsimp only
    rw [em]
    refine ⟨_, rfl, _, rfl, _, _, rfl, rfl, ⟨by omega, by omega⟩, ?_⟩
    refine ⟨_, rfl, (m : Int), rfl, fun p hp => ⟨p, 0, (m : Int), rfl, upd_same, ⟨by omega, by omega, by omega, by omega⟩, szle (by omega), fun fr hfr => ?_⟩⟩
    refine ⟨szle (by show 0 ≤ 100000; decide), fun od hod => ?_⟩
    have efr : rangeV 0 ((m : Int) - 0).toNat = ((List.range m).map fun (i : Nat) => (i : Int)).map V.int := by
      rw [Int.sub_zero, Int.toNat_natCast]; exact rangeV_ints m
    rw [efr] at hod
    dsimp only
    rw [efr]
    have s0 : Same H (upd (upd (upd H p (.rng 0 m)) fr (.lst (((List.range m).map fun (i : Nat) => (i : Int)).map V.int))) od (.lst [])) := ((Same.new hp).trans (Same.new hfr)).trans (Same.new hod)
    have fr0 : H fr = none := (Same.new hp).free hfr
    have od0 : H od = none := ((Same.new hp).trans (Same.new hfr)).free hod
    have nfo : fr ≠ od := ne_of_none (upd_same (H := upd H p (.rng 0 m))) hod
    have t0 : Two H (upd (upd (upd H p (.rng 0 m)) fr (.lst (((List.range m).map fun (i : Nat) => (i : Int)).map V.int))) od (.lst [])) fr od m ((List.range m).map fun (i : Nat) => (i : Int)) [] :=
      ⟨s0, fr0, od0, nfo, by rw [upd_ne nfo, upd_same], upd_same, fun x hx => by
        obtain ⟨i, hi, rfl⟩ := List.mem_map.mp hx
        have := List.mem_range.mp hi
        exact ⟨by omega, by omega⟩, (fun x hx => nomatch hx), nd_range m⟩
    refine ⟨_, rfl, (m : Int), rfl, by omega, by omega, for_range0 (n := m) (Kdg H t m fr od)
      ⟨_, none, _, [], rfl, t0, by simp, rfl⟩ ?_ ?_⟩
    · rintro i σ H3 hi ⟨cc, vk, fs, os, rfl, t3, l1, l2⟩
      have hpos : (0 : Int) < (fs.length : Int) := by omega
      have a1 := Int.emod_nonneg cc (show (fs.length : Int) ≠ 0 by omega)
      have a2 := Int.emod_lt_of_pos cc hpos
      obtain ⟨kk, ek⟩ := Int.eq_ofNat_of_zero_le a1
      have hkk : kk < fs.length := by omega
      refine ⟨_, rfl, .inl ⟨rfl, _, SqL.of t3.ho⟩, _, rfl, .inl ⟨rfl, _, SqL.of t3.hf⟩, _, rfl, _, rfl, fr, _, rfl, .inl (SqL.of t3.hf), _, _, rfl, rfl, (by show (0 : Int) < (((fs.map V.int).length : Nat) : Int); rw [List.length_map]; exact hpos), ?_⟩
      dsimp only
      rw [List.length_map, ek]
      refine ⟨fr, _, (kk : Int), kk, .int fs[kk], rfl, rfl, t3.hf, by omega, by omega, by rw [List.length_map]; exact PySem.seqIndex_of (by omega) (by omega), by simp [hkk], od, _, _, rfl, rfl, (by rw [upd_ne t3.ne.symm]; exact t3.ho), szlt (by rw [List.length_map]; omega), ?_⟩
      refine ⟨_, rfl, _, rfl, _, rfl, _, _, rfl, rfl, _, _, rfl, rfl, ⟨by omega, by omega⟩, ?_⟩
      exact ⟨_, _, _, _, rfl, Two.pop (H' := H) t3 hkk, by rw [List.length_eraseIdx_of_lt hkk]; omega, by simp [l2]⟩
    rintro σ H3 ⟨cc, vk, fs, os, rfl, t3, l1, l2⟩
    refine ⟨szle (by show 0 ≤ 100000; decide), fun pr hpr => ?_⟩
    have pr0 : H pr = none := t3.same.free hpr
    have npo : od ≠ pr := ne_of_none t3.ho hpr
    refine ⟨_, rfl, (m : Int), rfl, by omega, by omega, for_range0 (n := m) (Idg K H t m fr od vk pr os)
      ⟨cc, none, none, [], [], rfl, t3.same.trans (Same.new hpr), by rw [upd_ne npo]; exact t3.ho, upd_same, .nil, Nat.zero_le _, fun q hq => nomatch hq⟩ ?_ ?_⟩
    · rintro i σ H4 hi ⟨cc, vi, vj, ps, ws, rfl, s4, o4, p4, r4, l4, u4⟩
      refine ⟨_, rfl, (i : Int), rfl, by omega, by omega, for_range0 (n := i) (Jdg K H t m fr od vk pr os i)
        ⟨cc, vj, ps, ws, rfl, s4, o4, p4, r4, l4, u4⟩ ?_ ?_⟩
      · rintro j σ H5 hj ⟨cc, vj, ps, ws, rfl, s5, o5, p5, r5, l5, u5⟩
        refine ⟨_, rfl, _, _, rfl, rfl, (by show (0 : Int) < 2; decide), rfl, _, rfl, ?_⟩
        refine ite2 (fun _ => ?_) (fun _ => ?_)
        · have hjo : j < os.length := by omega
          have hio : i < os.length := by omega
          refine ⟨_, rfl, .inl ⟨rfl, _, SqL.of p5⟩, _, rfl, _, rfl, od, _, _, _, rfl, rfl, SqL.of o5, atI_nat (j := j) (v := .int os[j]) (by simp [hjo]), _, rfl, _, rfl, od, _, _, _, rfl, rfl, SqL.of o5, atI_nat (j := i) (v := .int os[i]) (by simp [hio]), szle (by show 2 ≤ 100000; decide), fun q hq => ?_⟩
          have wl : ws.length = ps.length := by rw [r5.len, List.length_map]
          have p6 : (upd H5 q (.tup [.int os[j], .int os[i]])) pr = some (.lst ws) := by rw [upd_ne (ne_of_none p5 hq)]; exact p5
          refine ⟨pr, ws, _, rfl, rfl, p6, szlt (by omega), ?_⟩
          refine ⟨_, rfl, _, _, rfl, rfl, ⟨by decide, by decide⟩, ?_⟩
          refine ⟨_, _, ps ++ [(os[j], os[i])], _, rfl, (s5.trans (Same.new hq)).put pr0, by rw [upd_ne npo, upd_ne (ne_of_none o5 hq)]; exact o5, upd_same, ?_, ?_, ?_⟩
          · rw [List.map_append]
            exact RpAll.append (RpAll.keep ((TK.new hq).trans (TK.lst p6)) r5 (imm_pairs ps)) (.one (mkPair (by rw [upd_ne (ne_of_none p5 hq).symm]; exact upd_same)))
          · rw [List.length_append, List.length_singleton]; omega
          · exact up_snoc u5 hj hjo hio
        · refine ⟨_, rfl, _, _, rfl, rfl, ⟨by decide, by decide⟩, ?_⟩
          exact ⟨_, _, ps, ws, rfl, s5, o5, p5, r5, by omega, u5⟩
      · rintro σ H5 ⟨cc, vj, ps, ws, rfl, s5, o5, p5, r5, l5, u5⟩
        exact ⟨_, _, _, ps, ws, rfl, s5, o5, p5, r5, by omega, u5⟩
    rintro σ H4 ⟨cc, vi, vj, ps, ws, rfl, s4, o4, p4, r4, l4, u4⟩
    refine ⟨_, rfl, _, rfl, _, rfl, m, pr, ws, ps, rfl, by omega, p4, r4, fun v H5 s5 r5 => ⟨szle (by show 2 ≤ 100000; decide), fun q hq => ?_⟩⟩
    exact k _ _ m (clo m ps) ((s4.trans s5).trans (Same.new hq)) hm1 hm2 (clo_sp (List.nodup_append.mp t3.nd).2.1 u4) (.tup upd_same (.cons (.int _) (.one (Rp.same (Same.new hq) r5))))
theorem scMix : FnScope ["cell", "most", "many", "free", "order", "k", "share", "half", "pairs", "i", "j", "drawn"] ["cell", "most"] (defScope sMix) := ⟨rfl, rfl, rfl, by decide +kernel, rfl, by decide +kernel, by decide +kernel⟩
set_option maxHeartbeats 16000000 in
theorem ok_mix {f : Addr} {fd : FuncData} (F : Fun K "_law_mixed" "_law_mixed" sMix f fd) (T : Txt K mg) (GC : Fn P w K mg base "_law_closed" 1 ["many", "pairs"] (spClosed K)) (GD : Fn P w K mg base "_law_draw" 1 ["cell", "k", "bound"] spDraw) : FnOk P w K mg base CX0 2 f fd ["cell", "most"] (spDig K) := by
  refine F.ok scMix (fun vs H Q E h => ?_) (fun cdv A outer s H vs Q E hr h => ?_)
  · obtain ⟨c, t, rfl, _⟩ := h; rfl
  · obtain ⟨c, t, rfl, ht1, ht2, k⟩ := h
    refine ⟨_, pss_cons (ps_set (i := 2) scMix.nd rfl (Or.inl rfl) (pe_op op_add pe_int (pe_op op_mod (pv 0) (pv 1))))
      (pss_cons (ps_set (i := 3) scMix.nd rfl (Or.inl rfl) (pe_callTy (call_list_rng rfl) (by rfl) T.list bt_list (pa_cons (pe_range1 (by rfl) T.range (pa_cons (pv 2) pa_nil)) pa_nil)))
      (pss_cons (ps_set (i := 4) scMix.nd rfl (Or.inl rfl) (pe_lst pa_nil))
      (pss_cons (ps_for PassesOwn.never rfl (pi_range1 (by rfl) T.range (pa_cons (pv 2) pa_nil)) (pg_name (i := 5) scMix.nd rfl (Or.inl rfl))
        (pss_one (ps_expr (pe_bm PySem.F.plainAttrs_list PySem.F.slot_list_append PySem.F.type_list_append mt_append (pv 4)
          (pa_cons (pe_bm PySem.F.plainAttrs_list PySem.F.slot_list_pop PySem.F.type_list_pop mt_popAt (pv 3)
            (pa_cons (pe_fn GD hr (pa_cons (pe_op op_fdiv (pv 0) pe_int) (pa_cons (pv 5) (pa_cons (pe_callB call_len_seq (by rfl) T.len bt_len (pa_cons (pv 3) pa_nil)) pa_nil)))) pa_nil)) pa_nil)))))
      (pss_cons (ps_set (i := 6) scMix.nd rfl (Or.inl rfl) (pe_op op_add pe_int (pe_fn GD hr (pa_cons (pe_op op_fdiv (pv 0) pe_int) (pa_cons pe_int (pa_cons pe_int pa_nil))))))
      (pss_cons (ps_set (i := 7) scMix.nd rfl (Or.inl rfl) (pe_op op_fdiv (pe_op op_mul (pv 2) (pe_fn GD hr (pa_cons (pe_op op_fdiv (pv 0) pe_int) (pa_cons pe_int (pa_cons pe_int pa_nil))))) pe_int))
      (pss_cons (ps_set (i := 8) scMix.nd rfl (Or.inl rfl) (pe_lst pa_nil))
      (pss_cons (ps_for PassesOwn.never rfl (pi_range1 (by rfl) T.range (pa_cons (pv 2) pa_nil)) (pg_name (i := 9) scMix.nd rfl (Or.inl rfl))
        (pss_one (ps_for PassesOwn.never rfl (pi_range1 (by rfl) T.range (pa_cons (pv 9) pa_nil)) (pg_name (i := 10) scMix.nd rfl (Or.inl rfl))
          (pss_cons (ps_set (i := 11) scMix.nd rfl (Or.inl rfl) (pe_fn GD hr (pa_cons (pe_op op_fdiv (pv 0) pe_int) (pa_cons (pe_op op_add (pe_op op_add pe_int (pe_op op_mul pe_int (pv 9))) (pv 10))
            (pa_cons (pe_ix ix_list (pe_lst (pa_cons (pv 6) (pa_cons pe_int pa_nil))) (pe_callTy call_int1 (by rfl) T.int bt_int (pa_cons (pe_cmpR op_gt (pv 7) pe_int (nomark _)) pa_nil)) (fun _ _ => rfl)) pa_nil)))))
          (pss_one (ps_if (pw_or (pw_and (pt_cmpR op_eq (pv 7) pe_int (nomark _)) (pw_and1 (pt_cmpR op_eq (pv 11) pe_int (nomark _)))).pt
              (pw_or1 (pw_and (pt_chain op_lt op_le (pv 10) (pv 7) (pv 9)) (pw_and1 (pt_cmpR op_gt (pv 11) pe_int (nomark _)))).pt)).pt
            (pss_one (ps_expr (pe_bm PySem.F.plainAttrs_list PySem.F.slot_list_append PySem.F.type_list_append mt_append (pv 8)
              (pa_cons (pe_tup (pa_cons (pe_ix ix_list (pv 4) (pv 10) (fun _ _ => rfl)) (pa_cons (pe_ix ix_list (pv 4) (pv 9) (fun _ _ => rfl)) pa_nil))) pa_nil)))) pss_nil))))))
      (pss_one (ps_ret (pe_tup (pa_cons (pv 2) (pa_cons (pe_fn GC hr (pa_cons (pv 2) (pa_cons (pv 8) pa_nil))) pa_nil)))))))))))), ?_⟩
    try dsimp only [cxOf]
    obtain ⟨m, em, hm1, hm2⟩ := mod_many c t ht1 ht2
    refine ⟨_, rfl, _, rfl, _, _, rfl, rfl, (by show (0 : Int) < t; omega), _, _, rfl, rfl, ?_⟩
    dsimp only
    rw [em]
    refine ⟨_, rfl, (m : Int), rfl, fun p hp => ⟨p, 0, (m : Int), rfl, upd_same, ⟨by omega, by omega, by omega, by omega⟩, szle (by omega), fun fr hfr => ?_⟩⟩
    refine ⟨szle (by show 0 ≤ 100000; decide), fun od hod => ?_⟩
    have efr : rangeV 0 ((m : Int) - 0).toNat = ((List.range m).map fun (i : Nat) => (i : Int)).map V.int := by
      rw [Int.sub_zero, Int.toNat_natCast]; exact rangeV_ints m
    rw [efr] at hod
    dsimp only
    rw [efr]
    have s0 : Same H (upd (upd (upd H p (.rng 0 m)) fr (.lst (((List.range m).map fun (i : Nat) => (i : Int)).map V.int))) od (.lst [])) := ((Same.new hp).trans (Same.new hfr)).trans (Same.new hod)
    have fr0 : H fr = none := (Same.new hp).free hfr
    have od0 : H od = none := ((Same.new hp).trans (Same.new hfr)).free hod
    have nfo : fr ≠ od := ne_of_none (upd_same (H := upd H p (.rng 0 m))) hod
    have t0 : Two H (upd (upd (upd H p (.rng 0 m)) fr (.lst (((List.range m).map fun (i : Nat) => (i : Int)).map V.int))) od (.lst [])) fr od m ((List.range m).map fun (i : Nat) => (i : Int)) [] :=
      ⟨s0, fr0, od0, nfo, by rw [upd_ne nfo, upd_same], upd_same, fun x hx => by
        obtain ⟨i, hi, rfl⟩ := List.mem_map.mp hx
        have := List.mem_range.mp hi
        exact ⟨by omega, by omega⟩, (fun x hx => nomatch hx), nd_range m⟩
    refine ⟨_, rfl, (m : Int), rfl, by omega, by omega, for_range0 (n := m) (Kmx H c t m fr od)
      ⟨none, _, [], rfl, t0, by simp, rfl⟩ ?_ ?_⟩
    · rintro i σ H3 hi ⟨vk, fs, os, rfl, t3, l1, l2⟩
      refine ⟨_, rfl, .inl ⟨rfl, _, SqL.of t3.ho⟩, _, rfl, .inl ⟨rfl, _, SqL.of t3.hf⟩, _, rfl, _, _, rfl, rfl, ⟨by decide, by decide⟩, _, rfl, _, rfl, fr, _, rfl, .inl (SqL.of t3.hf), _, _, _, rfl, (by show (0 : Int) < (((fs.map V.int).length : Nat) : Int); rw [List.length_map]; omega), fun r a1 a2 => ?_⟩
      rw [List.length_map] at a2
      obtain ⟨kk, rfl⟩ := Int.eq_ofNat_of_zero_le a1
      have hkk : kk < fs.length := by omega
      refine ⟨fr, _, (kk : Int), kk, .int fs[kk], rfl, rfl, t3.hf, by omega, by omega, by rw [List.length_map]; exact PySem.seqIndex_of (by omega) (by omega), by simp [hkk], od, _, _, rfl, rfl, (by rw [upd_ne t3.ne.symm]; exact t3.ho), szlt (by rw [List.length_map]; omega), ?_⟩
      exact ⟨_, _, _, rfl, Two.pop (H' := H) t3 hkk, by rw [List.length_eraseIdx_of_lt hkk]; omega, by simp [l2]⟩
    rintro σ H3 ⟨vk, fs, os, rfl, t3, l1, l2⟩
    refine ⟨_, rfl, _, _, rfl, rfl, ⟨by decide, by decide⟩, _, _, _, rfl, (by decide), fun r1 b1 b2 => ?_⟩
    refine ⟨_, _, rfl, rfl, ?_⟩
    refine ⟨_, rfl, _, rfl, _, _, rfl, rfl, ⟨by decide, by decide⟩, _, _, _, rfl, (by decide), fun r2 b3 b4 => ?_⟩
    refine ⟨_, _, rfl, rfl, .inl ⟨by omega, by omega⟩, _, _, rfl, rfl, ⟨by decide, by decide⟩, ?_⟩
    refine ⟨szle (by show 0 ≤ 100000; decide), fun pr hpr => ?_⟩
    have pr0 : H pr = none := t3.same.free hpr
    have npo : od ≠ pr := ne_of_none t3.ho hpr
    refine ⟨_, rfl, (m : Int), rfl, by omega, by omega, for_range0 (n := m) (Imx K H c t m fr od vk (2 + r1) ((m : Int) * r2 / 2) pr os)
      ⟨none, none, none, [], [], rfl, t3.same.trans (Same.new hpr), by rw [upd_ne npo]; exact t3.ho, upd_same, .nil, Nat.zero_le _, fun q hq => nomatch hq⟩ ?_ ?_⟩
    · rintro i σ H4 hi ⟨vi, vj, vd, ps, ws, rfl, s4, o4, p4, r4, l4, u4⟩
      refine ⟨_, rfl, (i : Int), rfl, by omega, by omega, for_range0 (n := i) (Jmx K H c t m fr od vk (2 + r1) ((m : Int) * r2 / 2) pr os i)
        ⟨vj, vd, ps, ws, rfl, s4, o4, p4, r4, l4, u4⟩ ?_ ?_⟩
      · rintro j σ H5' hj ⟨vj, vd, ps, ws, rfl, s5', o5', p5', r5', l5, u5⟩
        refine ⟨_, rfl, _, _, rfl, rfl, ⟨by decide, by decide⟩, _, rfl, _, _, rfl, rfl, .inl ⟨by decide, by decide⟩, _, _, rfl, rfl, _, rfl, _, _, rfl, rfl, _, rfl, szle (by show 2 ≤ 100000; decide), fun q0 hq0 => ?_⟩
        have s5 : Same H (upd H5' q0 (.lst [.int (2 + r1), .int 3])) := s5'.trans (Same.new hq0)
        have o5 : (upd H5' q0 (.lst [.int (2 + r1), .int 3])) od = some (.lst (os.map V.int)) := Same.new hq0 _ _ o5'
        have p5 : (upd H5' q0 (.lst [.int (2 + r1), .int 3])) pr = some (.lst ws) := Same.new hq0 _ _ p5'
        have r5 : RpAll K (upd H5' q0 (.lst [.int (2 + r1), .int 3])) ws (ps.map pD) := RpAll.same (Same.new hq0) r5'
        generalize hH5 : upd H5' q0 (.lst [.int (2 + r1), .int 3]) = H5 at s5 o5 p5 r5 ⊢
        have hq1 : H5 q0 = some (.lst [.int (2 + r1), .int 3]) := by rw [← hH5]; exact upd_same
        refine ⟨_, rfl, _, _, rfl, rfl, .inr ⟨_, rfl, ?_⟩⟩
        obtain ⟨bd, hbd, hat⟩ : ∃ bd : Int, 0 < bd ∧ atI [V.int (2 + r1), V.int 3] (if decide (0 < (m : Int) * r2 / 2) = true then 1 else 0) = some (.int bd) := by
          by_cases hh : 0 < (m : Int) * r2 / 2
          · exact ⟨3, by decide, by rw [decide_eq_true hh]; rfl⟩
          · exact ⟨2 + r1, by omega, by rw [decide_eq_false hh]; rfl⟩
        refine ⟨q0, _, _, _, rfl, rfl, SqL.of hq1, hat, _, _, _, rfl, hbd, fun r d1 d2 => ?_⟩
        have hjo : j < os.length := by omega
        have hio : i < os.length := by omega
        have wl : ws.length = ps.length := by rw [r5.len, List.length_map]
        have goA : Jmx K H c t m fr od vk (2 + r1) ((m : Int) * r2 / 2) pr os i (j + 1) [some (V.int c), some (.int t), some (.int m), some (.ref fr), some (.ref od), vk, some (.int (2 + r1)), some (.int ((m : Int) * r2 / 2)), some (.ref pr), some (.int i), some (.int j), some (.int r)] H5 := ⟨_, _, ps, ws, rfl, s5, o5, p5, r5, by omega, u5⟩
        have goB : ∀ (q : Addr), H5 q = none → rAppend (.ref pr) [.ref q] (upd H5 q (.tup [.int os[j], .int os[i]])) (fun _ H6 => Jmx K H c t m fr od vk (2 + r1) ((m : Int) * r2 / 2) pr os i (j + 1) [some (V.int c), some (.int t), some (.int m), some (.ref fr), some (.ref od), vk, some (.int (2 + r1)), some (.int ((m : Int) * r2 / 2)), some (.ref pr), some (.int i), some (.int j), some (.int r)] H6) := fun q hq => by
          have p6 : (upd H5 q (.tup [.int os[j], .int os[i]])) pr = some (.lst ws) := by rw [upd_ne (ne_of_none p5 hq)]; exact p5
          refine ⟨pr, ws, _, rfl, rfl, p6, szlt (by omega), _, _, ps ++ [(os[j], os[i])], _, rfl, (s5.trans (Same.new hq)).put pr0, by rw [upd_ne npo, upd_ne (ne_of_none o5 hq)]; exact o5, upd_same, ?_, ?_, ?_⟩
          · rw [List.map_append]
            exact RpAll.append (RpAll.keep ((TK.new hq).trans (TK.lst p6)) r5 (imm_pairs ps)) (.one (mkPair (by rw [upd_ne (ne_of_none p5 hq).symm]; exact upd_same)))
          · rw [List.length_append, List.length_singleton]; omega
          · exact up_snoc u5 hj hjo hio
        have goC : ∀ D' : Ends, D'.nx = Jmx K H c t m fr od vk (2 + r1) ((m : Int) * r2 / 2) pr os i (j + 1) → tDrop (tBM K "list" rAppend (tVar 8) (tCons (tTup (tCons (tOp (rIxL K) (tVar 4) (tVar 10)) (tCons (tOp (rIxL K) (tVar 4) (tVar 9)) tNil))) tNil)) D' [some (V.int c), some (.int t), some (.int m), some (.ref fr), some (.ref od), vk, some (.int (2 + r1)), some (.int ((m : Int) * r2 / 2)), some (.ref pr), some (.int i), some (.int j), some (.int r)] H5 := fun D' hD => by
          refine ⟨_, rfl, .inl ⟨rfl, _, SqL.of p5⟩, _, rfl, _, rfl, od, _, _, _, rfl, rfl, SqL.of o5, atI_nat (j := j) (v := .int os[j]) (by simp [hjo]), _, rfl, _, rfl, od, _, _, _, rfl, rfl, SqL.of o5, atI_nat (j := i) (v := .int os[i]) (by simp [hio]), szle (by show 2 ≤ 100000; decide), fun q hq => ?_⟩
          rw [hD]
          exact goB q hq
        refine ⟨_, rfl, rfl, _, rfl, ite2 (fun _ => ⟨_, rfl, rfl, _, rfl, ite2 (fun _ => goC _ rfl) (fun _ => ?_)⟩) (fun _ => ?_)⟩
        all_goals
          exact ⟨_, rfl, _, rfl, _, _, rfl, rfl, _, rfl, ite2 (fun _ => ⟨_, rfl, _, _, rfl, rfl, _, rfl, ite2 (fun _ => ⟨_, rfl, _, _, rfl, rfl, _, rfl, ite2 (fun _ => goC _ rfl) (fun _ => goA)⟩) (fun _ => goA)⟩) (fun _ => ⟨_, rfl, (goA)⟩)⟩
      · rintro σ H5 ⟨vj, vd, ps, ws, rfl, s5, o5, p5, r5, l5, u5⟩
        exact ⟨_, _, _, ps, ws, rfl, s5, o5, p5, r5, by omega, u5⟩
    rintro σ H4 ⟨vi, vj, vd, ps, ws, rfl, s4, o4, p4, r4, l4, u4⟩
    refine ⟨_, rfl, _, rfl, _, rfl, m, pr, ws, ps, rfl, by omega, p4, r4, fun v H5 s5 r5 => ⟨szle (by show 2 ≤ 100000; decide), fun q hq => ?_⟩⟩
    exact k _ _ m (clo m ps) ((s4.trans s5).trans (Same.new hq)) hm1 hm2 (clo_sp (List.nodup_append.mp t3.nd).2.1 u4) (.tup upd_same (.cons (.int _) (.one (Rp.same (Same.new hq) r5))))
theorem scSpace : FnScope ["script", "at", "most", "cell"] ["script", "at", "most"] (defScope sSpace) := ⟨rfl, rfl, rfl, by decide +kernel, rfl, by decide +kernel, by decide +kernel⟩
theorem ok_space {f : Addr} {fd : FuncData} (F : Fun K "_law_space" "_law_space" sSpace f fd) (GR : Fn P w K mg base "_law_raw" 1 ["script", "k"] (spCell K)) (GS : Fn P w K mg base "_law_stir" 1 ["cell"] spStir)
    (GB : Fn P w K mg base "_law_by_digits" 2 ["cell", "most"] (spDig K)) (GM : Fn P w K mg base "_law_mixed" 2 ["cell", "most"] (spDig K)) : FnOk P w K mg base CX0 3 f fd ["script", "at", "most"] (spSpace K) := by
  refine F.ok scSpace (fun vs H Q E h => ?_) (fun cdv A outer s H vs Q E hr h => ?_)
  · obtain ⟨a, ns, k, t, rfl, _⟩ := h; rfl
  · obtain ⟨a, ns, j, t, rfl, hS, ht1, ht2, k⟩ := h
    have hr1 := hr.mono (show 1 ≤ 2 by decide)
    refine ⟨_, pss_cons (ps_set (i := 3) scSpace.nd rfl (Or.inl rfl) (pe_fn GR hr1 (pa_cons (pv 0) (pa_cons (pv 1) pa_nil))))
      (pss_cons (ps_if (pt_cmpR op_eq (pe_op op_mod (pv 3) pe_int) pe_int (nomark _)) (pss_one (ps_ret (pe_fn GB hr (pa_cons (pe_op op_fdiv (pv 3) pe_int) (pa_cons (pv 2) pa_nil))))) pss_nil)
      (pss_one (ps_ret (pe_fn GM hr (pa_cons (pe_fn GS hr1 (pa_cons (pv 3) pa_nil)) (pa_cons (pv 2) pa_nil)))))), ?_⟩
    try dsimp only [cxOf]
    refine ⟨_, rfl, _, rfl, a, ns, j, rfl, hS, fun r H1 s1 => ?_⟩
    refine ⟨_, rfl, _, _, rfl, rfl, (by show (0 : Int) < 2; decide), rfl, _, rfl, ?_⟩
    refine ite2 (fun _ => ?_) (fun _ => ?_)
    · exact ⟨_, rfl, _, _, rfl, rfl, ⟨by decide, by decide⟩, _, rfl, _, t, rfl, ht1, ht2, fun v H' m ts s2 => k v H' m ts (s1.trans s2)⟩
    · exact ⟨_, rfl, _, rfl, fun r2 H2 s2 => ⟨_, rfl, _, t, rfl, ht1, ht2, fun v H' m ts s3 => k v H' m ts ((s1.trans s2).trans s3)⟩⟩
end
structure XT (K : PySem.W.Frag) (mg : Str → Option Value) (c0 : Addr) : Prop where
  x0 : XC K mg "SpaceError" c0
  g_MOST_POINTS : ∃ t, mg "MOST_POINTS" = some (.int 16 t)
def spPoint : Sp := fun vs H Q _ => ∃ n x : Int, vs = [.int n, .int x] ∧ ∀ b : Bool, (b = true ↔ 0 ≤ x ∧ x < n) → Q (.bl b) H
def gt (xs : List Int) (i : Int) : Int := xs.getD i.toNat 0
section
variable {P : Program} {w : World} {K : PySem.W.Frag} {mg : Str → Option Value} {base : Heap}
theorem scPoint : FnScope ["many", "number"] ["many", "number"] (defScope sPoint) := ⟨rfl, rfl, rfl, by decide +kernel, rfl, by decide +kernel, by decide +kernel⟩
theorem ok_point {f : Addr} {fd : FuncData} (F : Fun K "is_point" "is_point" sPoint f fd) : FnOk P w K mg base CX0 1 f fd ["many", "number"] spPoint := by
  refine F.ok scPoint (fun vs H Q E h => ?_) (fun cdv A outer s H vs Q E hr h => ?_)
  · obtain ⟨n, x, rfl, _⟩ := h; rfl
  · obtain ⟨n, x, rfl, k⟩ := h
    refine ⟨_, pss_one (ps_ret (pe_chain op_le op_lt pe_int (pv 1) (pv 0))), ?_⟩
    refine ⟨_, rfl, _, _, rfl, rfl, _, rfl, ?_⟩
    refine ite2 (fun e => ?_) (fun e => ?_)
    · refine ⟨_, rfl, _, _, rfl, rfl, k _ ⟨fun h => ⟨of_decide_eq_true e, of_decide_eq_true h⟩, fun h => decide_eq_true h.2⟩⟩
    · exact k _ ⟨fun h => absurd h Bool.false_ne_true, fun h => absurd (decide_eq_true h.1) e⟩
end
section
variable {P : Program} {w : World} {K : PySem.W.Frag} {mg : Str → Option Value} {base : Heap}
theorem scSame : FnScope ["space", "a", "b"] ["space", "a", "b"] (defScope sSame) := ⟨rfl, rfl, rfl, by decide +kernel, rfl, by decide +kernel, by decide +kernel⟩
theorem ok_same {f : Addr} {fd : FuncData} (F : Fun K "same_or_under" "same_or_under" sSame f fd) : FnOk P w K mg base CX0 1 f fd ["space", "a", "b"] (spLeq K) := by
  refine F.ok scSame (fun vs H Q E h => ?_) (fun cdv A outer s H vs Q E hr h => ?_)
  · obtain ⟨v, n, ps, a, b, rfl, _⟩ := h; rfl
  · obtain ⟨v, n, ps, a, b, rfl, hv, k⟩ := h
    obtain ⟨sa, ta, ys, rfl, h1, h2, h3⟩ := space_inv hv
    refine ⟨_, pss_one (ps_ret (pe_or (pe_cmpR op_eq (pv 1) (pv 2) (nomark _)) (pe_one (pe_cmpR (op_inK K (room_u hr (by decide))) (pe_tup (pa_cons (pv 1) (pa_cons (pv 2) pa_nil))) (pe_ix ix_tup (pv 0) pe_int (fun _ _ => rfl)) rfl)))), ?_⟩
    refine ⟨_, rfl, _, rfl, rfl, _, rfl, ?_⟩
    refine ite2 (fun e => k true H (Same.refl H) ⟨fun _ => .inl (by simpa using e), fun _ => rfl⟩) (fun e => ?_)
    have ne : a ≠ b := by simpa using e
    refine ⟨_, rfl, _, rfl, szle (by show 2 ≤ 100000; decide), fun p hp => ?_⟩
    have tk : TK H (upd H p (.tup [.int a, .int b])) := TK.new hp
    refine ⟨_, rfl, sa, _, 1, _, rfl, rfl, SqT.of (tk.tup _ _ h1), atI_nat (j := 1) rfl, ta, ys, ps.map pD, pD (a, b), rfl, .inr (SqT.of (tk.tup _ _ h2)), RpAll.keep tk h3 (imm_pairs ps), mkPair upd_same, lay_pairs ps, rfl, Nat.le_trans (depth_pD (a, b)) (by decide), ?_⟩
    rw [any_pD]
    exact k _ _ (Same.new hp) ⟨fun e => .inr (of_decide_eq_true e), fun h => decide_eq_true (h.resolve_left ne)⟩
end
theorem scr_inv {K : PySem.W.Frag} {H : Hp} {v : V} {ns : List Int} (h : Rp K H v (scrD ns)) : ∃ a, v = .ref a ∧ SqL K H a (ns.map V.int) := by
  generalize e : scrD ns = d at h
  cases h with
  | @scr a ms h1 =>
    have e : ns = ms := by
      have e : ns.map (fun n => (PyData.int n, PyData.none)) = ms.map fun n => (PyData.int n, PyData.none) := by
        unfold scrD at e; exact PyData.dict.inj e
      have := congrArg (List.map fun p : PyData × PyData => match p.1 with | .int i => i | _ => 0) e
      rw [List.map_map, List.map_map] at this
      simpa [Function.comp_def] using this
    subst e
    exact ⟨a, rfl, h1⟩
  | any =>
    have e : ns.map (fun n => (PyData.int n, PyData.none)) = [(.bool true, .none)] := PyData.dict.inj e
    have := anyK_scr ns
    rw [e] at this
    cases this
  | xc _ =>
    have e : ns.map (fun n => (PyData.int n, PyData.none)) = [(.bool false, .int _)] := PyData.dict.inj e
    have := excK_scr ns
    rw [e] at this
    cases this
  | _ => cases e
def Pstir (ds : List PyData) (RS : Dt → Prop) : Prop := ∃ c : Int, ds = [.int c] ∧ ∀ r : Int, RS (.d (.int r))
def Pcell (ds : List PyData) (RS : Dt → Prop) : Prop := ∃ (ns : List Int) (k : Nat), ds = [scrD ns, .int (k : Int)] ∧ ∀ r : Int, RS (.d (.int r))
def Pdraw (ds : List PyData) (RS : Dt → Prop) : Prop := ∃ c k b : Int, ds = [.int c, .int k, .int b] ∧ 0 < b ∧ ∀ r : Int, 0 ≤ r → r < b → RS (.d (.int r))
noncomputable def leqB (ps : List (Int × Int)) (a b : Int) : Bool := @decide (leqP ps a b) (Classical.propDecidable _)
theorem leqB_iff {ps : List (Int × Int)} {a b : Int} : leqB ps a b = true ↔ leqP ps a b := @decide_eq_true_iff _ (Classical.propDecidable _)
def Pleq (ds : List PyData) (RS : Dt → Prop) : Prop := ∃ (n : Int) (ps : List (Int × Int)) (a b : Int), ds = [spD n ps, .int a, .int b] ∧ RS (.d (.bool (leqB ps a b)))
def Pspace (ds : List PyData) (RS : Dt → Prop) : Prop := ∃ (ns : List Int) (k : Nat) (t : Int), ds = [scrD ns, .int (k : Int), .int t] ∧ 1 ≤ t ∧ t ≤ 16 ∧ ∀ (m : Nat) (ts : List (Int × Int)), 1 ≤ m → (m : Int) ≤ t → IsSp m ts → RS (.d (spD m ts))
section
variable {K : PySem.W.Frag} {vs : List V} {H : Hp} {Q : VK} {E : XK}
theorem cv_stir (h : spG K Pstir vs H Q E) : spStir vs H Q E := by
  obtain ⟨ds, RS, r, ⟨c, rfl, hR⟩, k⟩ := h
  cases r with
  | cons r1 r2 =>
    cases r2
    exact ⟨c, by rw [r1.int_inv], fun i H' s => k _ _ H' H' (hR i) (.of_same s) (Rp.int i)⟩
theorem cv_cell (h : spG K Pcell vs H Q E) : spCell K vs H Q E := by
  obtain ⟨ds, RS, r, ⟨ns, j, rfl, hR⟩, k⟩ := h
  cases r with
  | cons r1 r2 =>
    cases r2 with
    | cons r2 r3 =>
      cases r3
      obtain ⟨a, rfl, hs⟩ := scr_inv r1
      exact ⟨a, ns, j, by rw [r2.int_inv], hs, fun i H' s => k _ _ H' H' (hR i) (.of_same s) (Rp.int i)⟩
theorem cv_draw (h : spG K Pdraw vs H Q E) : spDraw vs H Q E := by
  obtain ⟨ds, RS, r, ⟨c, j, b, rfl, hb, hR⟩, k⟩ := h
  cases r with
  | cons r1 r2 =>
    cases r2 with
    | cons r2 r3 =>
      cases r3 with
      | cons r3 r4 =>
        cases r4
        exact ⟨c, j, b, by rw [r1.int_inv, r2.int_inv, r3.int_inv], hb, fun i h1 h2 => k _ _ H H (hR i h1 h2) (.of_same (Same.refl H)) (Rp.int i)⟩
theorem cv_leq (h : spG K Pleq vs H Q E) : spLeq K vs H Q E := by
  obtain ⟨ds, RS, r, ⟨n, ps, a, b, rfl, hR⟩, k⟩ := h
  cases r with
  | cons r1 r2 =>
    cases r2 with
    | cons r2 r3 =>
      cases r3 with
      | cons r3 r4 =>
        cases r4
        refine ⟨_, n, ps, a, b, by rw [r2.int_inv, r3.int_inv], r1, fun r H' s hr => ?_⟩
        have : r = leqB ps a b := by rw [Bool.eq_iff_iff, hr, leqB_iff]
        subst this
        exact k _ _ H' H' hR (.of_same s) (Rp.bl _)
theorem cv_space (h : spG K Pspace vs H Q E) : spSpace K vs H Q E := by
  obtain ⟨ds, RS, r, ⟨ns, j, t, rfl, h1, h2, hR⟩, k⟩ := h
  cases r with
  | cons r1 r2 =>
    cases r2 with
    | cons r2 r3 =>
      cases r3 with
      | cons r3 r4 =>
        cases r4
        obtain ⟨a, rfl, hs⟩ := scr_inv r1
        exact ⟨a, ns, j, t, by rw [r2.int_inv, r3.int_inv], hs, h1, h2, fun v H' m ts s b1 b2 b3 rv => k _ _ H' H' (hR m ts b1 b2 b3) (.of_same s) rv⟩
end
theorem fn_cv {P : Program} {w : World} {K : PySem.W.Frag} {mg : Str → Option Value} {base : Heap} {x : Str} {lvl : Nat} {ps : List Str} {sp sp' : Sp} (G : Fn P w K mg base x lvl ps sp) (h : ∀ vs H Q E, sp' vs H Q E → sp vs H Q E) : Fn P w K mg base x lvl ps sp' := by
  obtain ⟨f, fd, F, a⟩ := G
  exact ⟨f, fd, F.imp h, a⟩
theorem okI (i : Int) : okD (.int i) := rfl
theorem shI (i : Int) : shal (.int i) := by unfold shal; simp [PyData.depth]
theorem okP (p : Int × Int) : okD (pD p) := rfl
theorem shP (p : Int × Int) : shal (pD p) := Nat.le_trans (depth_pD p) (by decide)
theorem eqv_int (i j : Int) : PyData.eqv (.int i) (.int j) = decide (i = j) := by
  show (i == j) = _
  by_cases h : i = j <;> simp [h]
theorem at0 {α : Type} (a : α) (l : List α) : atI (a :: l) 0 = some a := atI_nat (j := 0) rfl
theorem at1 {α : Type} (a b : α) (l : List α) : atI (a :: b :: l) 1 = some b := atI_nat (j := 1) rfl
theorem at_ints {xs : List Int} {i : Int} (h0 : 0 ≤ i) (h1 : i < xs.length) : atI (xs.map PyData.int) i = some (.int (xs.getD i.toNat 0)) := by
  obtain ⟨j, rfl⟩ := Int.eq_ofNat_of_zero_le h0
  have hj : j < xs.length := by omega
  refine atI_nat (j := j) ?_
  simp [hj]
def Ppoint (ds : List PyData) (RS : Dt → Prop) : Prop := ∃ n x : Int, ds = [.int n, .int x] ∧ RS (.d (.bool (decide (0 ≤ x ∧ x < n))))
theorem cv_point {K : PySem.W.Frag} {vs : List V} {H : Hp} {Q : VK} {E : XK} (h : spG K Ppoint vs H Q E) : spPoint vs H Q E := by
  obtain ⟨ds, RS, r, ⟨n, x, rfl, hR⟩, k⟩ := h
  cases r with
  | cons r1 r2 =>
    cases r2 with
    | cons r2 r3 =>
      cases r3
      refine ⟨n, x, by rw [r1.int_inv, r2.int_inv], fun b hb => ?_⟩
      have : b = decide (0 ≤ x ∧ x < n) := by rw [Bool.eq_iff_iff, hb, decide_eq_true_iff]
      subst this
      exact k _ _ H H hR (.of_same (Same.refl H)) (Rp.bl _)
theorem seq_sp (n : Int) (ps : List (Int × Int)) : seqD (spD n ps) = some [.int n, .tuple (ps.map pD)] := rfl
theorem pD_inj : ∀ a b : Int × Int, pD a = pD b → a = b := pair_inj
def pu (ps : List (Int × Int)) (p : Int) : List Int := (ps.filter fun q => decide (q.2 = p)).map (·.1)
def po (ps : List (Int × Int)) (p : Int) : List Int := (ps.filter fun q => decide (q.1 = p)).map (·.2)
noncomputable def lowF (ps : List (Int × Int)) (pts : List Int) : Option Int := pts.find? fun p => pts.all fun a => leqB ps p a
noncomputable def highF (ps : List (Int × Int)) (pts : List Int) : Option Int := pts.find? fun p => pts.all fun a => leqB ps a p
noncomputable def goalF (ps : List (Int × Int)) (p : Int) : Option Int := (lowF ps (po ps p)).or (highF ps (pu ps p))
def optD : Option Int → PyData
  | none => .none
  | some x => .int x
noncomputable def foldF (n : Nat) (ps : List (Int × Int)) : List Int := ((List.range n).map fun (i : Nat) => (i : Int)).filter fun p => (goalF ps p).isSome
def cu (p x : Int) : Int := if x > p then x - 1 else x
def cu2 (p : Int) (q : Int × Int) : Int × Int := (cu p q.1, cu p q.2)
def woF (ps : List (Int × Int)) (p : Int) : List (Int × Int) := (ps.filter fun q => decide (p ≠ q.1) && decide (p ≠ q.2)).map (cu2 p)
def Ppu (ds : List PyData) (RS : Dt → Prop) : Prop := ∃ (n : Int) (ps : List (Int × Int)) (p : Int), ds = [spD n ps, .int p] ∧ RS (.o ((pu ps p).map PyData.int))
def Ppo (ds : List PyData) (RS : Dt → Prop) : Prop := ∃ (n : Int) (ps : List (Int × Int)) (p : Int), ds = [spD n ps, .int p] ∧ RS (.o ((po ps p).map PyData.int))
def Plow (ds : List PyData) (RS : Dt → Prop) : Prop := ∃ (n : Int) (ps : List (Int × Int)) (pts : List Int), ds = [spD n ps, .list (pts.map PyData.int)] ∧ RS (.d (optD (lowF ps pts)))
def Phigh (ds : List PyData) (RS : Dt → Prop) : Prop := ∃ (n : Int) (ps : List (Int × Int)) (pts : List Int), ds = [spD n ps, .list (pts.map PyData.int)] ∧ RS (.d (optD (highF ps pts)))
def Pgoal (ds : List PyData) (RS : Dt → Prop) : Prop := ∃ (n : Int) (ps : List (Int × Int)) (p : Int), ds = [spD n ps, .int p] ∧ 0 ≤ p ∧ p < n ∧ RS (.d (optD (goalF ps p)))
def PgoalA (ds : List PyData) (RS : Dt → Prop) : Prop := ∃ (n : Int) (ps : List (Int × Int)) (p : Int), ds = [spD n ps, .int p] ∧ RS (.d (optD (goalF ps p)))
def Pfoldable (ds : List PyData) (RS : Dt → Prop) : Prop := ∃ (n : Nat) (ps : List (Int × Int)), ds = [spD n ps] ∧ n ≤ 100 ∧ RS (.o ((foldF n ps).map PyData.int))
def Pcu (ds : List PyData) (RS : Dt → Prop) : Prop := ∃ x p : Int, ds = [.int x, .int p] ∧ RS (.d (.int (cu p x)))
def Pwo (ds : List PyData) (RS : Dt → Prop) : Prop := ∃ (n : Int) (ps : List (Int × Int)) (p : Int), ds = [spD n ps, .int p] ∧ RS (.d (spD (n - 1) (woF ps p)))
def Pfolded (ds : List PyData) (RS : Dt → Prop) : Prop := ∃ (n : Int) (ps : List (Int × Int)) (p : Int), ds = [spD n ps, .int p] ∧ 0 ≤ p ∧ p < n ∧ (goalF ps p).isSome = true ∧ RS (.d (spD (n - 1) (woF ps p)))
theorem isNone_opt (o : Option Int) : isNone (optD o) = o.isNone := by cases o <;> rfl
theorem find_snoc {α : Type} {p : α → Bool} {l : List α} {k : Nat} {x : α} (hx : l[k]? = some x) (h : p x = true) (hn : ∀ (j : Nat) (y : α), j < k → l[j]? = some y → p y = false) : l.find? p = some x := by
  rw [List.find?_eq_some_iff_getElem]
  obtain ⟨hk, e⟩ := List.getElem?_eq_some_iff.mp hx
  refine ⟨h, k, hk, e, fun j hj => ?_⟩
  have := hn j l[j] hj (List.getElem?_eq_getElem (by omega))
  simp [this]
theorem find_none {α : Type} {p : α → Bool} {l : List α} (hn : ∀ (j : Nat) (y : α), j < l.length → l[j]? = some y → p y = false) : l.find? p = none := by
  rw [List.find?_eq_none]
  intro x hx
  obtain ⟨j, hj, e⟩ := List.getElem_of_mem hx
  rw [hn j x hj (by rw [← e]; exact List.getElem?_eq_getElem hj)]
  exact Bool.false_ne_true
theorem atc0 {α : Type} (a : α) (l : List α) : atI (a :: l) ((0 : Nat) : Int) = some a := atI_nat (j := 0) rfl
theorem atc1 {α : Type} (a b : α) (l : List α) : atI (a :: b :: l) ((1 : Nat) : Int) = some b := atI_nat (j := 1) rfl
theorem atd1 {α : Type} (a b : α) (l : List α) : atI (a :: b :: l) (1 - ((0 : Nat) : Int)) = some b := atI_nat (j := 1) rfl
theorem atd0 {α : Type} (a : α) (l : List α) : atI (a :: l) (1 - ((1 : Nat) : Int)) = some a := atI_nat (j := 0) rfl
theorem others_low (ps : List (Int × Int)) (near : List Int) (x : Int) : ((near.filter fun o => !decide (o = x)).all fun o => decide ((x, o) ∈ ps)) = near.all fun a => leqB ps x a := by
  rw [Bool.eq_iff_iff, List.all_eq_true, List.all_eq_true]
  constructor
  · intro h a ha
    rw [leqB_iff]
    by_cases e : a = x
    · exact .inl e.symm
    · exact .inr (of_decide_eq_true (h a (List.mem_filter.mpr ⟨ha, by simp [e]⟩)))
  · intro h o ho
    obtain ⟨h1, h2⟩ := List.mem_filter.mp ho
    have h2 : ¬ o = x := by simpa using h2
    rcases leqB_iff.mp (h o h1) with z | z
    · exact absurd z.symm h2
    · exact decide_eq_true z
theorem others_high (ps : List (Int × Int)) (near : List Int) (x : Int) : ((near.filter fun o => !decide (o = x)).all fun o => decide ((o, x) ∈ ps)) = near.all fun a => leqB ps a x := by
  rw [Bool.eq_iff_iff, List.all_eq_true, List.all_eq_true]
  constructor
  · intro h a ha
    rw [leqB_iff]
    by_cases e : a = x
    · exact .inl e
    · exact .inr (of_decide_eq_true (h a (List.mem_filter.mpr ⟨ha, by simp [e]⟩)))
  · intro h o ho
    obtain ⟨h1, h2⟩ := List.mem_filter.mp ho
    have h2 : ¬ o = x := by simpa using h2
    rcases leqB_iff.mp (h o h1) with z | z
    · exact absurd z h2
    · exact decide_eq_true z
abbrev Elg (n : Int) (ps : List (Int × Int)) (p : Int) (k : Nat) (v3 v4 v5 : Dt) : List Dt := [.d (spD n ps), .d (.int p), .d (.int ((k : Nat) : Int)), v3, v4, v5]
section
variable {P : Program} {w : World} {K : PySem.W.Frag} {mg : Str → Option Value} {base : Heap}
theorem scPu : FnScope ["space", "point"] ["space", "point"] (defScope s_points_under) := ⟨rfl, rfl, rfl, by decide +kernel, rfl, by decide +kernel, by decide +kernel⟩
theorem ok_Pu {f : Addr} {fd : FuncData} (F : Fun K "points_under" "points_under" s_points_under f fd) (T : Txt K mg)  :
    FnOk P w K mg base CX0 1 f fd ["space", "point"] (spG K Ppu) := by
  refine F.okG scPu (fun ds RS h => ?_) (fun cdv A outer s H E hr => (dss_one (ds_retO (do_lc (N' := ["a", "b", "point"]) (fun _ => (.own (.own (.cap 1 rfl rfl rfl .nil)))) (di_seq (de_ix (dq_var 0) (de_int).bw)) (dg_tup2 0 1 (fun _ => (by decide +kernel : (["a", "b", "point"] : List Str).Nodup))) (dif_one (dt_cmp (od_eq (fun _ => room_u hr (by decide))) (db_var 1) (db_var 2))) (de_var 0))))) (fun ds RS h => ?_)
  · obtain ⟨n, ps, p, rfl, _⟩ := h; rfl
  · obtain ⟨n, ps, p, rfl, hR⟩ := h
    simp only [sNewK, sNewK1, sPutK, xInK, xGetK, xSortD, xSum, xSumV, sPopL, sToOO, sAppOO, sForO, Dt.dk.injEq, xSortP, sExp, sNext, sSeq, sSet, sSetO, sRet, sRetO, sRetV, sIf, sFrz, sApp, xVar, xC, xVarB, xVarQ, xVarL, xSeq, xLst, x2, xB, xNot, xAnd, xNeg, xIf, xChain, xIx, xNil, xCons, xTup, xDisp, xLen, xTuple, xCat, xCatT, xCall, xCallO, xRange1, xAll, xPn, xPs, xIndex, xSlice, gN, gN2, rdI0, rdI, rdEq, rdNe, rdIn, reduceCtorEq, false_or, or_false, false_and, exists_false, exists_const, frz_d, frz_o, seqS, seq_l, seq_t, seq_scr, startD, capD, List.map_cons, List.map_nil, List.length_cons, List.length_nil, List.getElem?_cons_zero, List.getElem?_cons_succ, List.set_cons_zero, List.set_cons_succ, List.replicate_succ, List.replicate_zero, List.cons_append, List.nil_append, Option.some.injEq, Dt.d.injEq, Dt.o.injEq, PyData.int.injEq, PyData.bool.injEq, PyData.tuple.injEq, PyData.list.injEq, exists_eq_left, exists_eq_left', exists_eq_right, exists_and_left, true_and, and_true, ne_eq, not_false_eq_true, Option.getD_some, Option.getD_none, Nat.reduceAdd, Nat.reduceSub, Nat.reduceLeDiff, Nat.zero_le, Nat.le_refl, xLC, seq_sp, at1]
    refine ⟨Gf ps pD (fun q => decide (q.2 = p)) (fun q => .int q.1), fun y hy => ?_, fun o ho => ?_⟩
    · obtain ⟨q, hq, rfl⟩ := List.mem_map.mp hy
      refine ⟨_, _, rfl, okI _, okI _, .inl (shI _), ?_⟩
      rw [eqv_int]
      exact ite2 (fun e => Gf.keep hq e rfl) (fun e => Gf.skip hq (by simpa using e))
    · rw [Gf.out pD_inj ho]
      unfold pu at hR
      rw [List.map_map] at hR
      exact hR
end
section
variable {P : Program} {w : World} {K : PySem.W.Frag} {mg : Str → Option Value} {base : Heap}
theorem scPo : FnScope ["space", "point"] ["space", "point"] (defScope s_points_over) := ⟨rfl, rfl, rfl, by decide +kernel, rfl, by decide +kernel, by decide +kernel⟩
theorem ok_Po {f : Addr} {fd : FuncData} (F : Fun K "points_over" "points_over" s_points_over f fd) (T : Txt K mg)  :
    FnOk P w K mg base CX0 1 f fd ["space", "point"] (spG K Ppo) := by
  refine F.okG scPo (fun ds RS h => ?_) (fun cdv A outer s H E hr => (dss_one (ds_retO (do_lc (N' := ["a", "b", "point"]) (fun _ => (.own (.own (.cap 1 rfl rfl rfl .nil)))) (di_seq (de_ix (dq_var 0) (de_int).bw)) (dg_tup2 0 1 (fun _ => (by decide +kernel : (["a", "b", "point"] : List Str).Nodup))) (dif_one (dt_cmp (od_eq (fun _ => room_u hr (by decide))) (db_var 0) (db_var 2))) (de_var 1))))) (fun ds RS h => ?_)
  · obtain ⟨n, ps, p, rfl, _⟩ := h; rfl
  · obtain ⟨n, ps, p, rfl, hR⟩ := h
    simp only [sNewK, sNewK1, sPutK, xInK, xGetK, xSortD, xSum, xSumV, sPopL, sToOO, sAppOO, sForO, Dt.dk.injEq, xSortP, sExp, sNext, sSeq, sSet, sSetO, sRet, sRetO, sRetV, sIf, sFrz, sApp, xVar, xC, xVarB, xVarQ, xVarL, xSeq, xLst, x2, xB, xNot, xAnd, xNeg, xIf, xChain, xIx, xNil, xCons, xTup, xDisp, xLen, xTuple, xCat, xCatT, xCall, xCallO, xRange1, xAll, xPn, xPs, xIndex, xSlice, gN, gN2, rdI0, rdI, rdEq, rdNe, rdIn, reduceCtorEq, false_or, or_false, false_and, exists_false, exists_const, frz_d, frz_o, seqS, seq_l, seq_t, seq_scr, startD, capD, List.map_cons, List.map_nil, List.length_cons, List.length_nil, List.getElem?_cons_zero, List.getElem?_cons_succ, List.set_cons_zero, List.set_cons_succ, List.replicate_succ, List.replicate_zero, List.cons_append, List.nil_append, Option.some.injEq, Dt.d.injEq, Dt.o.injEq, PyData.int.injEq, PyData.bool.injEq, PyData.tuple.injEq, PyData.list.injEq, exists_eq_left, exists_eq_left', exists_eq_right, exists_and_left, true_and, and_true, ne_eq, not_false_eq_true, Option.getD_some, Option.getD_none, Nat.reduceAdd, Nat.reduceSub, Nat.reduceLeDiff, Nat.zero_le, Nat.le_refl, xLC, seq_sp, at1]
    refine ⟨Gf ps pD (fun q => decide (q.1 = p)) (fun q => .int q.2), fun y hy => ?_, fun o ho => ?_⟩
    · obtain ⟨q, hq, rfl⟩ := List.mem_map.mp hy
      refine ⟨_, _, rfl, okI _, okI _, .inl (shI _), ?_⟩
      rw [eqv_int]
      exact ite2 (fun e => Gf.keep hq e rfl) (fun e => Gf.skip hq (by simpa using e))
    · rw [Gf.out pD_inj ho]
      unfold po at hR
      rw [List.map_map] at hR
      exact hR
end
section
variable {P : Program} {w : World} {K : PySem.W.Frag} {mg : Str → Option Value} {base : Heap}
theorem scLw : FnScope ["space", "points", "point"] ["space", "points"] (defScope s_lowest) := ⟨rfl, rfl, rfl, by decide +kernel, rfl, by decide +kernel, by decide +kernel⟩
theorem ok_Lw {f : Addr} {fd : FuncData} (F : Fun K "lowest" "lowest" s_lowest f fd) (T : Txt K mg) (GDSm : Fn P w K mg base "same_or_under" 1 ["space", "a", "b"] (spG K Pleq)) :
    FnOk P w K mg base CX0 2 f fd ["space", "points"] (spG K Plow) := by
  refine F.okG scLw (fun ds RS h => ?_) (fun cdv A outer s H E hr => (dss_cons (ds_for (fun _ => PassesOwn.never) (di_seq (de_var 1)) (dg_name 2 (fun _ => scLw.nd)) (dss_one (ds_if (dt_val (de_all (do_lc (N' := ["another", "space", "point"]) (fun _ => (.own (.cap 0 rfl rfl rfl (.cap 2 rfl rfl rfl .nil)))) (di_seq (de_var 1)) (dg_name 0 (fun _ => (by decide +kernel : (["another", "space", "point"] : List Str).Nodup))) dif_nil (de_call GDSm (fun _ => hr.mono (by decide)) (da_cons (de_var 1) (da_cons (de_var 2) (da_cons (de_var 0) da_nil))))).l (fun _ => T.all)).bw) (dss_one (ds_retV 2)) dss_nil)))
      (dss_one (ds_ret (de_non))))) (fun ds RS h => ?_)
  · obtain ⟨n, ps, pts, rfl, _⟩ := h; rfl
  · obtain ⟨n, ps, pts, rfl, hR⟩ := h
    refine ⟨_, rfl, _, rfl, fun k env => ∃ v, env = [.d (spD n ps), .d (.list (pts.map PyData.int)), v] ∧ ∀ (j : Nat) (y : Int), j < k → pts[j]? = some y → (pts.all fun a => leqB ps y a) = false, ⟨_, rfl, fun j y h => absurd h (Nat.not_lt_zero _)⟩, ?_, ?_⟩
    · rintro k y env hy ⟨v, rfl, no⟩
      rw [List.getElem?_map] at hy
      obtain ⟨x, hx, rfl⟩ := Option.map_eq_some_iff.mp hy
      simp only [sNewK, sNewK1, sPutK, xInK, xGetK, xSortD, xSum, xSumV, sPopL, sToOO, sAppOO, sForO, Dt.dk.injEq, xSortP, sExp, sNext, sSeq, sSet, sSetO, sRet, sRetO, sRetV, sIf, sFrz, sApp, xVar, xC, xVarB, xVarQ, xVarL, xSeq, xLst, x2, xB, xNot, xAnd, xNeg, xIf, xChain, xIx, xNil, xCons, xTup, xDisp, xLen, xTuple, xCat, xCatT, xCall, xCallO, xRange1, xAll, xPn, xPs, xIndex, xSlice, gN, gN2, rdI0, rdI, rdEq, rdNe, rdIn, reduceCtorEq, false_or, or_false, false_and, exists_false, exists_const, frz_d, frz_o, seqS, seq_l, seq_t, seq_scr, startD, capD, List.map_cons, List.map_nil, List.length_cons, List.length_nil, List.getElem?_cons_zero, List.getElem?_cons_succ, List.set_cons_zero, List.set_cons_succ, List.replicate_succ, List.replicate_zero, List.cons_append, List.nil_append, Option.some.injEq, Dt.d.injEq, Dt.o.injEq, PyData.int.injEq, PyData.bool.injEq, PyData.tuple.injEq, PyData.list.injEq, exists_eq_left, exists_eq_left', exists_eq_right, exists_and_left, true_and, and_true, ne_eq, not_false_eq_true, Option.getD_some, Option.getD_none, Nat.reduceAdd, Nat.reduceSub, Nat.reduceLeDiff, Nat.zero_le, Nat.le_refl, xLC]
      refine ⟨Gf pts PyData.int (fun _ => true) (fun a => .bool (leqB ps x a)), fun y hy => ?_, fun o ho => ?_⟩
      · obtain ⟨y, hy2, rfl⟩ := List.mem_map.mp hy
        exact ⟨n, ps, x, y, rfl, _, rfl, Gf.keep hy2 rfl rfl⟩
      · rw [Gf.all int_inj ho]
        refine ⟨pts.map fun a => leqB ps x a, by rw [List.map_map]; rfl, ?_⟩
        rw [all_map]
        refine ite2 (fun e => ?_) (fun e => ⟨_, rfl, fun j z hj hz => ?_⟩)
        · have : lowF ps pts = some x := find_snoc hx e no
          rw [this] at hR
          exact hR
        · rcases Nat.lt_succ_iff_lt_or_eq.mp hj with q | q
          · exact no j z q hz
          · subst q
            rw [hx] at hz
            cases hz
            simpa using e
    · rintro env ⟨v, rfl, no⟩
      have : lowF ps pts = none := find_none fun j y hj hy => no j y (by rw [List.length_map]; exact hj) hy
      rw [this] at hR
      exact hR
end
section
variable {P : Program} {w : World} {K : PySem.W.Frag} {mg : Str → Option Value} {base : Heap}
theorem scHg : FnScope ["space", "points", "point"] ["space", "points"] (defScope s_highest) := ⟨rfl, rfl, rfl, by decide +kernel, rfl, by decide +kernel, by decide +kernel⟩
theorem ok_Hg {f : Addr} {fd : FuncData} (F : Fun K "highest" "highest" s_highest f fd) (T : Txt K mg) (GDSm : Fn P w K mg base "same_or_under" 1 ["space", "a", "b"] (spG K Pleq)) :
    FnOk P w K mg base CX0 2 f fd ["space", "points"] (spG K Phigh) := by
  refine F.okG scHg (fun ds RS h => ?_) (fun cdv A outer s H E hr => (dss_cons (ds_for (fun _ => PassesOwn.never) (di_seq (de_var 1)) (dg_name 2 (fun _ => scHg.nd)) (dss_one (ds_if (dt_val (de_all (do_lc (N' := ["another", "space", "point"]) (fun _ => (.own (.cap 0 rfl rfl rfl (.cap 2 rfl rfl rfl .nil)))) (di_seq (de_var 1)) (dg_name 0 (fun _ => (by decide +kernel : (["another", "space", "point"] : List Str).Nodup))) dif_nil (de_call GDSm (fun _ => hr.mono (by decide)) (da_cons (de_var 1) (da_cons (de_var 0) (da_cons (de_var 2) da_nil))))).l (fun _ => T.all)).bw) (dss_one (ds_retV 2)) dss_nil)))
      (dss_one (ds_ret (de_non))))) (fun ds RS h => ?_)
  · obtain ⟨n, ps, pts, rfl, _⟩ := h; rfl
  · obtain ⟨n, ps, pts, rfl, hR⟩ := h
    refine ⟨_, rfl, _, rfl, fun k env => ∃ v, env = [.d (spD n ps), .d (.list (pts.map PyData.int)), v] ∧ ∀ (j : Nat) (y : Int), j < k → pts[j]? = some y → (pts.all fun a => leqB ps a y) = false, ⟨_, rfl, fun j y h => absurd h (Nat.not_lt_zero _)⟩, ?_, ?_⟩
    · rintro k y env hy ⟨v, rfl, no⟩
      rw [List.getElem?_map] at hy
      obtain ⟨x, hx, rfl⟩ := Option.map_eq_some_iff.mp hy
      simp only [sNewK, sNewK1, sPutK, xInK, xGetK, xSortD, xSum, xSumV, sPopL, sToOO, sAppOO, sForO, Dt.dk.injEq, xSortP, sExp, sNext, sSeq, sSet, sSetO, sRet, sRetO, sRetV, sIf, sFrz, sApp, xVar, xC, xVarB, xVarQ, xVarL, xSeq, xLst, x2, xB, xNot, xAnd, xNeg, xIf, xChain, xIx, xNil, xCons, xTup, xDisp, xLen, xTuple, xCat, xCatT, xCall, xCallO, xRange1, xAll, xPn, xPs, xIndex, xSlice, gN, gN2, rdI0, rdI, rdEq, rdNe, rdIn, reduceCtorEq, false_or, or_false, false_and, exists_false, exists_const, frz_d, frz_o, seqS, seq_l, seq_t, seq_scr, startD, capD, List.map_cons, List.map_nil, List.length_cons, List.length_nil, List.getElem?_cons_zero, List.getElem?_cons_succ, List.set_cons_zero, List.set_cons_succ, List.replicate_succ, List.replicate_zero, List.cons_append, List.nil_append, Option.some.injEq, Dt.d.injEq, Dt.o.injEq, PyData.int.injEq, PyData.bool.injEq, PyData.tuple.injEq, PyData.list.injEq, exists_eq_left, exists_eq_left', exists_eq_right, exists_and_left, true_and, and_true, ne_eq, not_false_eq_true, Option.getD_some, Option.getD_none, Nat.reduceAdd, Nat.reduceSub, Nat.reduceLeDiff, Nat.zero_le, Nat.le_refl, xLC]
      refine ⟨Gf pts PyData.int (fun _ => true) (fun a => .bool (leqB ps a x)), fun y hy => ?_, fun o ho => ?_⟩
      · obtain ⟨y, hy2, rfl⟩ := List.mem_map.mp hy
        exact ⟨n, ps, y, x, rfl, _, rfl, Gf.keep hy2 rfl rfl⟩
      · rw [Gf.all int_inj ho]
        refine ⟨pts.map fun a => leqB ps a x, by rw [List.map_map]; rfl, ?_⟩
        rw [all_map]
        refine ite2 (fun e => ?_) (fun e => ⟨_, rfl, fun j z hj hz => ?_⟩)
        · have : highF ps pts = some x := find_snoc hx e no
          rw [this] at hR
          exact hR
        · rcases Nat.lt_succ_iff_lt_or_eq.mp hj with q | q
          · exact no j z q hz
          · subst q
            rw [hx] at hz
            cases hz
            simpa using e
    · rintro env ⟨v, rfl, no⟩
      have : highF ps pts = none := find_none fun j y hj hy => no j y (by rw [List.length_map]; exact hj) hy
      rw [this] at hR
      exact hR
end
section
variable {P : Program} {w : World} {K : PySem.W.Frag} {mg : Str → Option Value} {base : Heap}
theorem scGo : FnScope ["space", "point", "onto"] ["space", "point"] (defScope s_goal) := ⟨rfl, rfl, rfl, by decide +kernel, rfl, by decide +kernel, by decide +kernel⟩
theorem ok_Go {f : Addr} {fd : FuncData} (F : Fun K "goal" "goal" s_goal f fd) (T : Txt K mg) (GDPt : Fn P w K mg base "is_point" 1 ["many", "number"] (spG K Ppoint)) (GPu : Fn P w K mg base "points_under" 1 ["space", "point"] (spG K Ppu)) (GPo : Fn P w K mg base "points_over" 1 ["space", "point"] (spG K Ppo)) (GLw : Fn P w K mg base "lowest" 2 ["space", "points"] (spG K Plow)) (GHg : Fn P w K mg base "highest" 2 ["space", "points"] (spG K Phigh)) :
    FnOk P w K mg base CX0 3 f fd ["space", "point"] (spG K Pgoal) := by
  refine F.okG scGo (fun ds RS h => ?_) (fun cdv A outer s H E hr => (dss_cons (ds_if (dt_not (dt_val (de_call GDPt (fun _ => hr.mono (by decide)) (da_cons (de_ix (dq_var 0) (de_int).bw) (da_cons (de_var 1) da_nil))).bw)) (dss_one (ds_never)) dss_nil)
      (dss_cons (ds_set 2 (fun _ => scGo.nd) (de_call GLw (fun _ => hr.mono (by decide)) (da_cons (de_var 0) (da_cons ((do_call GPo (fun _ => hr.mono (by decide)) (da_cons (de_var 0) (da_cons (de_var 1) da_nil))).ew) da_nil))))
      (dss_cons (ds_if (dt_cmp od_is (db_var 2) (de_non).bw) (dss_one (ds_set 2 (fun _ => scGo.nd) (de_call GHg (fun _ => hr.mono (by decide)) (da_cons (de_var 0) (da_cons ((do_call GPu (fun _ => hr.mono (by decide)) (da_cons (de_var 0) (da_cons (de_var 1) da_nil))).ew) da_nil))))) dss_nil)
      (dss_one (ds_retV 2)))))) (fun ds RS h => ?_)
  · obtain ⟨n, ps, p, rfl, _⟩ := h; rfl
  · obtain ⟨n, ps, p, rfl, h0, h1, hR⟩ := h
    simp only [sNewK, sNewK1, sPutK, xInK, xGetK, xSortD, xSum, xSumV, sPopL, sToOO, sAppOO, sForO, Dt.dk.injEq, xSortP, sExp, sNext, sSeq, sSet, sSetO, sRet, sRetO, sRetV, sIf, sFrz, sApp, xVar, xC, xVarB, xVarQ, xVarL, xSeq, xLst, x2, xB, xNot, xAnd, xNeg, xIf, xChain, xIx, xNil, xCons, xTup, xDisp, xLen, xTuple, xCat, xCatT, xCall, xCallO, xRange1, xAll, xPn, xPs, xIndex, xSlice, gN, gN2, rdI0, rdI, rdEq, rdNe, rdIn, reduceCtorEq, false_or, or_false, false_and, exists_false, exists_const, frz_d, frz_o, seqS, seq_l, seq_t, seq_scr, startD, capD, List.map_cons, List.map_nil, List.length_cons, List.length_nil, List.getElem?_cons_zero, List.getElem?_cons_succ, List.set_cons_zero, List.set_cons_succ, List.replicate_succ, List.replicate_zero, List.cons_append, List.nil_append, Option.some.injEq, Dt.d.injEq, Dt.o.injEq, PyData.int.injEq, PyData.bool.injEq, PyData.tuple.injEq, PyData.list.injEq, exists_eq_left, exists_eq_left', exists_eq_right, exists_and_left, true_and, and_true, ne_eq, not_false_eq_true, Option.getD_some, Option.getD_none, Nat.reduceAdd, Nat.reduceSub, Nat.reduceLeDiff, Nat.zero_le, Nat.le_refl, seq_sp, at0]
    refine ⟨n, p, rfl, _, rfl, _, rfl, ?_⟩
    refine iteN (by rw [decide_eq_true ⟨h0, h1⟩]; rfl) ?_
    refine ⟨n, ps, p, rfl, _, rfl, n, ps, _, rfl, _, rfl, ?_⟩
    rw [isNone_opt]
    cases e : lowF ps (po ps p) with
    | some x =>
      have : goalF ps p = some x := by unfold goalF; rw [e]; rfl
      rw [this] at hR
      exact hR
    | none =>
      have : goalF ps p = highF ps (pu ps p) := by unfold goalF; rw [e]; rfl
      rw [this] at hR
      exact ⟨n, ps, p, rfl, _, rfl, n, ps, _, rfl, _, rfl, hR⟩
end
section
variable {P : Program} {w : World} {K : PySem.W.Frag} {mg : Str → Option Value} {base : Heap}
theorem scLg : FnScope ["space", "point", "side", "near", "one", "others"] ["space", "point"] (defScope s__law_goal) := ⟨rfl, rfl, rfl, by decide +kernel, rfl, by decide +kernel, by decide +kernel⟩
theorem ok_Lg {f : Addr} {fd : FuncData} (F : Fun K "_law_goal" "_law_goal" s__law_goal f fd) (T : Txt K mg)  :
    FnOk P w K mg base CX0 1 f fd ["space", "point"] (spG K PgoalA) := by
  refine F.okG scLg (fun ds RS h => ?_) (fun cdv A outer s H E hr => (dss_cons (ds_for (fun _ => PassesOwn.never) (di_range1 (de_int).bw (fun _ => T.range)) (dg_name 2 (fun _ => scLg.nd)) (dss_cons (ds_setlc 3 (fun _ => scLg.nd) (N' := ["pair", "side", "point"]) (fun _ => (.own (.cap 2 rfl rfl rfl (.cap 1 rfl rfl rfl .nil)))) (di_seq (de_ix (dq_var 0) (de_int).bw)) (dg_name 0 (fun _ => (by decide +kernel : (["pair", "side", "point"] : List Str).Nodup))) (dif_one (dt_cmp (od_eq (fun _ => room_u hr (by decide))) (de_ix (dq_var 0) (db_var 1)).bw (db_var 2))) (de_ix (dq_var 0) (de_bin od_sub (de_int).bw (db_var 1)).bw))
      (DSs.frz 3 (dss_one (ds_for (fun _ => PassesOwn.never) (di_seq (de_var 3)) (dg_name 4 (fun _ => scLg.nd)) (dss_cons (ds_setlc 5 (fun _ => scLg.nd) (N' := ["other", "one"]) (fun _ => (.own (.cap 4 rfl rfl rfl .nil))) (di_seq (de_var 3)) (dg_name 0 (fun _ => (by decide +kernel : (["other", "one"] : List Str).Nodup))) (dif_one (dt_cmp (od_ne (fun _ => room_u hr (by decide))) (db_var 0) (db_var 1))) (de_var 0))
      (DSs.frz 5 (dss_one (ds_if (dt_val (de_all (do_lc (N' := ["other", "side", "space", "one"]) (fun _ => (.own (.cap 2 rfl rfl rfl (.cap 0 rfl rfl rfl (.cap 4 rfl rfl rfl .nil))))) (di_seq (de_var 5)) (dg_name 0 (fun _ => (by decide +kernel : (["other", "side", "space", "one"] : List Str).Nodup))) dif_nil (de_cmp (od_in (fun _ => room_u hr (by decide))) (de_ix (do_lst (da_cons (de_tup (da_cons (de_var 3) (da_cons (de_var 0) da_nil))) (da_cons (de_tup (da_cons (de_var 0) (da_cons (de_var 3) da_nil))) da_nil))).q (db_var 1)).bw (de_ix (dq_var 2) (de_int).bw).bw)).l (fun _ => T.all)).bw) (dss_one (ds_retV 4)) dss_nil)))))))))
      (dss_one (ds_ret (de_non))))) (fun ds RS h => ?_)
  · obtain ⟨n, ps, p, rfl, _⟩ := h; rfl
  · obtain ⟨n, ps, p, rfl, hR⟩ := h
    refine ⟨2, rfl, by decide, by decide, fun k env => ∃ v2 v3 v4 v5, env = [.d (spD n ps), .d (.int p), v2, v3, v4, v5] ∧ (1 ≤ k → lowF ps (po ps p) = none) ∧ (2 ≤ k → highF ps (pu ps p) = none), ⟨_, _, _, _, rfl, fun z => absurd z (by decide), fun z => absurd z (by decide)⟩, ?_, ?_⟩
    · rintro k y env hy ⟨v2, v3, v4, v5, rfl, g1, g2⟩
      obtain ⟨hk, rfl⟩ := ints_get hy
      rw [Int.zero_add]
      have k01 : k = 0 ∨ k = 1 := by
        have : k < 2 := hk
        omega
      rcases k01 with rfl | rfl
      · refine seq_d (fun env => env = Elg n ps p 0 (.o ((po ps p).map PyData.int)) v4 v5) (fun N hN => ?_) ?_
        · simp only [sNewK, sNewK1, sPutK, xInK, xGetK, xSortD, xSum, xSumV, sPopL, sToOO, sAppOO, sForO, Dt.dk.injEq, xSortP, sExp, sNext, sSeq, sSet, sSetO, sRet, sRetO, sRetV, sIf, sFrz, sApp, xVar, xC, xVarB, xVarQ, xVarL, xSeq, xLst, x2, xB, xNot, xAnd, xNeg, xIf, xChain, xIx, xNil, xCons, xTup, xDisp, xLen, xTuple, xCat, xCatT, xCall, xCallO, xRange1, xAll, xPn, xPs, xIndex, xSlice, gN, gN2, rdI0, rdI, rdEq, rdNe, rdIn, reduceCtorEq, false_or, or_false, false_and, exists_false, exists_const, frz_d, frz_o, seqS, seq_l, seq_t, seq_scr, startD, capD, List.map_cons, List.map_nil, List.length_cons, List.length_nil, List.getElem?_cons_zero, List.getElem?_cons_succ, List.set_cons_zero, List.set_cons_succ, List.replicate_succ, List.replicate_zero, List.cons_append, List.nil_append, Option.some.injEq, Dt.d.injEq, Dt.o.injEq, PyData.int.injEq, PyData.bool.injEq, PyData.tuple.injEq, PyData.list.injEq, exists_eq_left, exists_eq_left', exists_eq_right, exists_and_left, true_and, and_true, ne_eq, not_false_eq_true, Option.getD_some, Option.getD_none, Nat.reduceAdd, Nat.reduceSub, Nat.reduceLeDiff, Nat.zero_le, Nat.le_refl, xLC, seq_sp, at0, at1]
          refine ⟨Gf ps pD (fun q => decide (q.1 = p)) (fun q => .int q.2), fun y hy => ?_, fun o ho => ?_⟩
          · obtain ⟨q, hq, rfl⟩ := List.mem_map.mp hy
            refine ⟨_, rfl, _, atc0 _ _, okI _, okI _, .inl (shI _), ?_⟩
            rw [eqv_int]
            exact ite2 (fun e => ⟨_, rfl, _, atd1 _ _ _, Gf.keep hq e rfl⟩) (fun e => Gf.skip hq (by simpa using e))
          have en : ((ps.filter fun q => decide (q.1 = p)).map fun q => PyData.int q.2) = (po ps p).map PyData.int := by unfold po; rw [List.map_map]; rfl
          rw [Gf.out pD_inj ho, en]
          exact hN _ rfl
        rintro env rfl
        refine ⟨_, rfl, ?_⟩
        generalize hnear : po ps p = near at *
        refine ⟨_, rfl, _, rfl, fun k env => ∃ v4 v5, env = Elg n ps p 0 (.d (.list (near.map PyData.int))) v4 v5 ∧ ∀ (j : Nat) (y : Int), j < k → near[j]? = some y → (near.all fun a => leqB ps y a) = false, ⟨_, _, rfl, fun j y h => absurd h (Nat.not_lt_zero _)⟩, ?_, ?_⟩
        · rintro k y env hy ⟨v4, v5, rfl, no⟩
          rw [List.getElem?_map] at hy
          obtain ⟨x, hx, rfl⟩ := Option.map_eq_some_iff.mp hy
          refine seq_d (fun env => env = Elg n ps p 0 (.d (.list (near.map PyData.int))) (.d (.int x)) (.o ((near.filter fun o => !decide (o = x)).map PyData.int))) (fun N hN => ?_) ?_
          · simp only [sNewK, sNewK1, sPutK, xInK, xGetK, xSortD, xSum, xSumV, sPopL, sToOO, sAppOO, sForO, Dt.dk.injEq, xSortP, sExp, sNext, sSeq, sSet, sSetO, sRet, sRetO, sRetV, sIf, sFrz, sApp, xVar, xC, xVarB, xVarQ, xVarL, xSeq, xLst, x2, xB, xNot, xAnd, xNeg, xIf, xChain, xIx, xNil, xCons, xTup, xDisp, xLen, xTuple, xCat, xCatT, xCall, xCallO, xRange1, xAll, xPn, xPs, xIndex, xSlice, gN, gN2, rdI0, rdI, rdEq, rdNe, rdIn, reduceCtorEq, false_or, or_false, false_and, exists_false, exists_const, frz_d, frz_o, seqS, seq_l, seq_t, seq_scr, startD, capD, List.map_cons, List.map_nil, List.length_cons, List.length_nil, List.getElem?_cons_zero, List.getElem?_cons_succ, List.set_cons_zero, List.set_cons_succ, List.replicate_succ, List.replicate_zero, List.cons_append, List.nil_append, Option.some.injEq, Dt.d.injEq, Dt.o.injEq, PyData.int.injEq, PyData.bool.injEq, PyData.tuple.injEq, PyData.list.injEq, exists_eq_left, exists_eq_left', exists_eq_right, exists_and_left, true_and, and_true, ne_eq, not_false_eq_true, Option.getD_some, Option.getD_none, Nat.reduceAdd, Nat.reduceSub, Nat.reduceLeDiff, Nat.zero_le, Nat.le_refl, xLC]
            refine ⟨Gf near PyData.int (fun o => !decide (o = x)) PyData.int, fun y hy => ?_, fun o ho => ?_⟩
            · obtain ⟨z, hz, rfl⟩ := List.mem_map.mp hy
              refine ⟨okI _, okI _, .inl (shI _), ?_⟩
              rw [eqv_int]
              exact ite2 (fun e => Gf.keep hz e rfl) (fun e => Gf.skip hz (by simpa using e))
            rw [Gf.out int_inj ho]
            exact hN _ rfl
          rintro env rfl
          refine ⟨_, rfl, ?_⟩
          simp only [sNewK, sNewK1, sPutK, xInK, xGetK, xSortD, xSum, xSumV, sPopL, sToOO, sAppOO, sForO, Dt.dk.injEq, xSortP, sExp, sNext, sSeq, sSet, sSetO, sRet, sRetO, sRetV, sIf, sFrz, sApp, xVar, xC, xVarB, xVarQ, xVarL, xSeq, xLst, x2, xB, xNot, xAnd, xNeg, xIf, xChain, xIx, xNil, xCons, xTup, xDisp, xLen, xTuple, xCat, xCatT, xCall, xCallO, xRange1, xAll, xPn, xPs, xIndex, xSlice, gN, gN2, rdI0, rdI, rdEq, rdNe, rdIn, reduceCtorEq, false_or, or_false, false_and, exists_false, exists_const, frz_d, frz_o, seqS, seq_l, seq_t, seq_scr, startD, capD, List.map_cons, List.map_nil, List.length_cons, List.length_nil, List.getElem?_cons_zero, List.getElem?_cons_succ, List.set_cons_zero, List.set_cons_succ, List.replicate_succ, List.replicate_zero, List.cons_append, List.nil_append, Option.some.injEq, Dt.d.injEq, Dt.o.injEq, PyData.int.injEq, PyData.bool.injEq, PyData.tuple.injEq, PyData.list.injEq, exists_eq_left, exists_eq_left', exists_eq_right, exists_and_left, true_and, and_true, ne_eq, not_false_eq_true, Option.getD_some, Option.getD_none, Nat.reduceAdd, Nat.reduceSub, Nat.reduceLeDiff, Nat.zero_le, Nat.le_refl, xLC, seq_sp, at1]
          refine ⟨Gf (near.filter fun o => !decide (o = x)) PyData.int (fun _ => true) (fun o => .bool (decide ((x, o) ∈ ps))), fun y hy => ?_, fun o ho => ?_⟩
          · obtain ⟨z, hz, rfl⟩ := List.mem_map.mp hy
            refine ⟨_, atc0 _ _, lay_pairs ps, okP (x, z), shP (x, z), ?_⟩
            exact Gf.keep hz rfl (congrArg PyData.bool (any_pD (x, z) ps))
          rw [Gf.all int_inj ho]
          refine ⟨(near.filter fun o => !decide (o = x)).map fun o => decide ((x, o) ∈ ps), by rw [List.map_map]; rfl, ?_⟩
          rw [all_map, others_low]
          refine ite2 (fun e => ?_) (fun e => ⟨_, _, rfl, fun j z hj hz => ?_⟩)
          · have hf : lowF ps near = some x := find_snoc hx e no
            have hg : goalF ps p = some x := by unfold goalF; rw [hnear, hf]; rfl
            rw [hg] at hR
            exact hR
          · rcases Nat.lt_succ_iff_lt_or_eq.mp hj with q | q
            · exact no j z q hz
            · subst q
              rw [hx] at hz
              cases hz
              simpa using e
        · rintro env ⟨v4, v5, rfl, no⟩
          have hn : lowF ps near = none := find_none fun j y hj hy => no j y (by rw [List.length_map]; exact hj) hy
          exact ⟨_, _, _, _, rfl, fun _ => hn, fun z => absurd z (by decide)⟩
      · refine seq_d (fun env => env = Elg n ps p 1 (.o ((pu ps p).map PyData.int)) v4 v5) (fun N hN => ?_) ?_
        · simp only [sNewK, sNewK1, sPutK, xInK, xGetK, xSortD, xSum, xSumV, sPopL, sToOO, sAppOO, sForO, Dt.dk.injEq, xSortP, sExp, sNext, sSeq, sSet, sSetO, sRet, sRetO, sRetV, sIf, sFrz, sApp, xVar, xC, xVarB, xVarQ, xVarL, xSeq, xLst, x2, xB, xNot, xAnd, xNeg, xIf, xChain, xIx, xNil, xCons, xTup, xDisp, xLen, xTuple, xCat, xCatT, xCall, xCallO, xRange1, xAll, xPn, xPs, xIndex, xSlice, gN, gN2, rdI0, rdI, rdEq, rdNe, rdIn, reduceCtorEq, false_or, or_false, false_and, exists_false, exists_const, frz_d, frz_o, seqS, seq_l, seq_t, seq_scr, startD, capD, List.map_cons, List.map_nil, List.length_cons, List.length_nil, List.getElem?_cons_zero, List.getElem?_cons_succ, List.set_cons_zero, List.set_cons_succ, List.replicate_succ, List.replicate_zero, List.cons_append, List.nil_append, Option.some.injEq, Dt.d.injEq, Dt.o.injEq, PyData.int.injEq, PyData.bool.injEq, PyData.tuple.injEq, PyData.list.injEq, exists_eq_left, exists_eq_left', exists_eq_right, exists_and_left, true_and, and_true, ne_eq, not_false_eq_true, Option.getD_some, Option.getD_none, Nat.reduceAdd, Nat.reduceSub, Nat.reduceLeDiff, Nat.zero_le, Nat.le_refl, xLC, seq_sp, at0, at1]
          refine ⟨Gf ps pD (fun q => decide (q.2 = p)) (fun q => .int q.1), fun y hy => ?_, fun o ho => ?_⟩
          · obtain ⟨q, hq, rfl⟩ := List.mem_map.mp hy
            refine ⟨_, rfl, _, atc1 _ _ _, okI _, okI _, .inl (shI _), ?_⟩
            rw [eqv_int]
            exact ite2 (fun e => ⟨_, rfl, _, atd0 _ _, Gf.keep hq e rfl⟩) (fun e => Gf.skip hq (by simpa using e))
          have en : ((ps.filter fun q => decide (q.2 = p)).map fun q => PyData.int q.1) = (pu ps p).map PyData.int := by unfold pu; rw [List.map_map]; rfl
          rw [Gf.out pD_inj ho, en]
          exact hN _ rfl
        rintro env rfl
        refine ⟨_, rfl, ?_⟩
        generalize hnear : pu ps p = near at *
        refine ⟨_, rfl, _, rfl, fun k env => ∃ v4 v5, env = Elg n ps p 1 (.d (.list (near.map PyData.int))) v4 v5 ∧ ∀ (j : Nat) (y : Int), j < k → near[j]? = some y → (near.all fun a => leqB ps a y) = false, ⟨_, _, rfl, fun j y h => absurd h (Nat.not_lt_zero _)⟩, ?_, ?_⟩
        · rintro k y env hy ⟨v4, v5, rfl, no⟩
          rw [List.getElem?_map] at hy
          obtain ⟨x, hx, rfl⟩ := Option.map_eq_some_iff.mp hy
          refine seq_d (fun env => env = Elg n ps p 1 (.d (.list (near.map PyData.int))) (.d (.int x)) (.o ((near.filter fun o => !decide (o = x)).map PyData.int))) (fun N hN => ?_) ?_
          · simp only [sNewK, sNewK1, sPutK, xInK, xGetK, xSortD, xSum, xSumV, sPopL, sToOO, sAppOO, sForO, Dt.dk.injEq, xSortP, sExp, sNext, sSeq, sSet, sSetO, sRet, sRetO, sRetV, sIf, sFrz, sApp, xVar, xC, xVarB, xVarQ, xVarL, xSeq, xLst, x2, xB, xNot, xAnd, xNeg, xIf, xChain, xIx, xNil, xCons, xTup, xDisp, xLen, xTuple, xCat, xCatT, xCall, xCallO, xRange1, xAll, xPn, xPs, xIndex, xSlice, gN, gN2, rdI0, rdI, rdEq, rdNe, rdIn, reduceCtorEq, false_or, or_false, false_and, exists_false, exists_const, frz_d, frz_o, seqS, seq_l, seq_t, seq_scr, startD, capD, List.map_cons, List.map_nil, List.length_cons, List.length_nil, List.getElem?_cons_zero, List.getElem?_cons_succ, List.set_cons_zero, List.set_cons_succ, List.replicate_succ, List.replicate_zero, List.cons_append, List.nil_append, Option.some.injEq, Dt.d.injEq, Dt.o.injEq, PyData.int.injEq, PyData.bool.injEq, PyData.tuple.injEq, PyData.list.injEq, exists_eq_left, exists_eq_left', exists_eq_right, exists_and_left, true_and, and_true, ne_eq, not_false_eq_true, Option.getD_some, Option.getD_none, Nat.reduceAdd, Nat.reduceSub, Nat.reduceLeDiff, Nat.zero_le, Nat.le_refl, xLC]
            refine ⟨Gf near PyData.int (fun o => !decide (o = x)) PyData.int, fun y hy => ?_, fun o ho => ?_⟩
            · obtain ⟨z, hz, rfl⟩ := List.mem_map.mp hy
              refine ⟨okI _, okI _, .inl (shI _), ?_⟩
              rw [eqv_int]
              exact ite2 (fun e => Gf.keep hz e rfl) (fun e => Gf.skip hz (by simpa using e))
            rw [Gf.out int_inj ho]
            exact hN _ rfl
          rintro env rfl
          refine ⟨_, rfl, ?_⟩
          simp only [sNewK, sNewK1, sPutK, xInK, xGetK, xSortD, xSum, xSumV, sPopL, sToOO, sAppOO, sForO, Dt.dk.injEq, xSortP, sExp, sNext, sSeq, sSet, sSetO, sRet, sRetO, sRetV, sIf, sFrz, sApp, xVar, xC, xVarB, xVarQ, xVarL, xSeq, xLst, x2, xB, xNot, xAnd, xNeg, xIf, xChain, xIx, xNil, xCons, xTup, xDisp, xLen, xTuple, xCat, xCatT, xCall, xCallO, xRange1, xAll, xPn, xPs, xIndex, xSlice, gN, gN2, rdI0, rdI, rdEq, rdNe, rdIn, reduceCtorEq, false_or, or_false, false_and, exists_false, exists_const, frz_d, frz_o, seqS, seq_l, seq_t, seq_scr, startD, capD, List.map_cons, List.map_nil, List.length_cons, List.length_nil, List.getElem?_cons_zero, List.getElem?_cons_succ, List.set_cons_zero, List.set_cons_succ, List.replicate_succ, List.replicate_zero, List.cons_append, List.nil_append, Option.some.injEq, Dt.d.injEq, Dt.o.injEq, PyData.int.injEq, PyData.bool.injEq, PyData.tuple.injEq, PyData.list.injEq, exists_eq_left, exists_eq_left', exists_eq_right, exists_and_left, true_and, and_true, ne_eq, not_false_eq_true, Option.getD_some, Option.getD_none, Nat.reduceAdd, Nat.reduceSub, Nat.reduceLeDiff, Nat.zero_le, Nat.le_refl, xLC, seq_sp, at1]
          refine ⟨Gf (near.filter fun o => !decide (o = x)) PyData.int (fun _ => true) (fun o => .bool (decide ((o, x) ∈ ps))), fun y hy => ?_, fun o ho => ?_⟩
          · obtain ⟨z, hz, rfl⟩ := List.mem_map.mp hy
            refine ⟨_, atc1 _ _ _, lay_pairs ps, okP (z, x), shP (z, x), ?_⟩
            exact Gf.keep hz rfl (congrArg PyData.bool (any_pD (z, x) ps))
          rw [Gf.all int_inj ho]
          refine ⟨(near.filter fun o => !decide (o = x)).map fun o => decide ((o, x) ∈ ps), by rw [List.map_map]; rfl, ?_⟩
          rw [all_map, others_high]
          refine ite2 (fun e => ?_) (fun e => ⟨_, _, rfl, fun j z hj hz => ?_⟩)
          · have hf : highF ps near = some x := find_snoc hx e no
            have hg : goalF ps p = some x := by unfold goalF; rw [g1 (by decide), hnear, hf]; rfl
            rw [hg] at hR
            exact hR
          · rcases Nat.lt_succ_iff_lt_or_eq.mp hj with q | q
            · exact no j z q hz
            · subst q
              rw [hx] at hz
              cases hz
              simpa using e
        · rintro env ⟨v4, v5, rfl, no⟩
          have hn : highF ps near = none := find_none fun j y hj hy => no j y (by rw [List.length_map]; exact hj) hy
          exact ⟨_, _, _, _, rfl, fun _ => g1 (by decide), fun _ => hn⟩
    · rintro env ⟨v2, v3, v4, v5, rfl, g1, g2⟩
      rw [ints_len] at g1 g2
      have : goalF ps p = none := by unfold goalF; rw [g1 (by decide), g2 (by decide)]; rfl
      rw [this] at hR
      exact hR
end
def InRs (n : Int) (ps : List (Int × Int)) : Prop := ∀ q ∈ ps, inR n q
theorem cu_in {n p x : Int} (h0 : 0 ≤ x) (h1 : x < n) (hp0 : 0 ≤ p) (hp1 : p < n) (hne : x ≠ p) : 0 ≤ cu p x ∧ cu p x < n - 1 := by
  unfold cu
  split <;> omega
theorem wo_in {n p : Int} {ps : List (Int × Int)} (h : InRs n ps) (hp0 : 0 ≤ p) (hp1 : p < n) : InRs (n - 1) (woF ps p) := by
  intro q hq
  obtain ⟨r, hr, rfl⟩ := List.mem_map.mp hq
  obtain ⟨h1, h2⟩ := List.mem_filter.mp hr
  obtain ⟨a, b, c, d⟩ := h r h1
  have h2 : p ≠ r.1 ∧ p ≠ r.2 := by simpa using h2
  have e1 := cu_in a b hp0 hp1 (Ne.symm h2.1)
  have e2 := cu_in c d hp0 hp1 (Ne.symm h2.2)
  exact ⟨e1.1, e1.2, e2.1, e2.2⟩
theorem wo_len (ps : List (Int × Int)) (p : Int) : (woF ps p).length ≤ ps.length := by
  unfold woF
  rw [List.length_map]
  exact List.length_filter_le _ _
def nmF (n : Nat) (p : Int) : List Int := ((List.range n).map fun (i : Nat) => (i : Int)).filter fun i => !decide (i = p)
theorem nm_split (k m : Nat) : nmF (k + 1 + m) (k : Int) = ((List.range k).map fun (i : Nat) => (i : Int)) ++ ((List.range m).map fun (i : Nat) => ((k + 1 + i : Nat) : Int)) := by
  unfold nmF
  have e : List.range (k + 1 + m) = List.range k ++ [k] ++ (List.range m).map fun i => k + 1 + i := by
    rw [← List.range_succ, List.range_add]
  rw [e, List.map_append, List.map_append, List.filter_append, List.filter_append]
  have f1 : (((List.range k).map fun (i : Nat) => (i : Int)).filter fun i => !decide (i = (k : Int))) = (List.range k).map fun (i : Nat) => (i : Int) := by
    rw [List.filter_eq_self]
    intro x hx
    obtain ⟨i, hi, rfl⟩ := List.mem_map.mp hx
    have := List.mem_range.mp hi
    have : ¬ ((i : Int) = (k : Int)) := by omega
    simp [this]
  have f2 : ((([k] : List Nat).map fun (i : Nat) => (i : Int)).filter fun i => !decide (i = (k : Int))) = [] := by simp
  have f3 : ((((List.range m).map fun i => k + 1 + i).map fun (i : Nat) => (i : Int)).filter fun i => !decide (i = (k : Int))) = (List.range m).map fun (i : Nat) => ((k + 1 + i : Nat) : Int) := by
    rw [List.map_map, List.filter_eq_self.mpr]
    · rfl
    · intro x hx
      obtain ⟨i, hi, rfl⟩ := List.mem_map.mp hx
      have : ¬ (((k + 1 + i : Nat) : Int) = (k : Int)) := by omega
      simpa using this
  rw [f1, f2, f3, List.append_nil]
theorem idx_at {l : List Int} (nd : l.Nodup) {i : Nat} {x : Int} (h : l[i]? = some x) : l.idxOf x = i := by
  have hm : x ∈ l := List.mem_of_getElem? h
  have hlt : l.idxOf x < l.length := List.idxOf_lt_length_iff.mpr hm
  have e : l[l.idxOf x]? = some x := by
    rw [List.getElem?_eq_getElem hlt]
    exact congrArg some (List.getElem_idxOf hlt)
  exact nodup_at nd e h
theorem nm_nodup (n : Nat) (p : Int) : (nmF n p).Nodup := by
  unfold nmF
  refine List.Pairwise.filter _ ?_
  have := nd_range n
  rw [List.append_nil] at this
  exact this
theorem nm_idx {n : Nat} {p a : Int} (hp0 : 0 ≤ p) (hp1 : p < n) (h0 : 0 ≤ a) (h1 : a < n) (hne : a ≠ p) : a ∈ nmF n p ∧ (((nmF n p).idxOf a : Nat) : Int) = cu p a := by
  obtain ⟨k, rfl⟩ := Int.eq_ofNat_of_zero_le hp0
  obtain ⟨x, rfl⟩ := Int.eq_ofNat_of_zero_le h0
  obtain ⟨m, rfl⟩ : ∃ m, n = k + 1 + m := ⟨n - (k + 1), by omega⟩
  have at' : (nmF (k + 1 + m) (k : Int))[(cu (k : Int) (x : Int)).toNat]? = some (x : Int) := by
    rw [nm_split]
    unfold cu
    by_cases hx : (x : Int) > (k : Int)
    · rw [if_pos hx]
      have e : ((x : Int) - 1).toNat = x - 1 := by omega
      rw [e, List.getElem?_append_right (by simp; omega)]
      simp only [List.length_map, List.length_range, List.getElem?_map]
      rw [List.getElem?_range (by omega)]
      simp only [Option.map_some, Option.some.injEq]
      omega
    · rw [if_neg hx]
      have e : ((x : Int)).toNat = x := by omega
      have hlt : x < k := by omega
      rw [e, List.getElem?_append_left (by simp; omega)]
      simp [hlt]
  refine ⟨List.mem_of_getElem? at', ?_⟩
  rw [idx_at (nm_nodup _ _) at']
  have := cu_in h0 h1 hp0 hp1 hne
  omega
inductive Walk : Nat → List (Int × Int) → List Int → Nat → List (Int × Int) → Prop where
  | nil (n : Nat) (ps : List (Int × Int)) : Walk n ps [] n ps
  | cons {n : Nat} {ps : List (Int × Int)} {p : Int} {row : List Int} {n' : Nat} {ps' : List (Int × Int)} : 0 ≤ p → p < ((n + 1 : Nat) : Int) → (goalF ps p).isSome = true → Walk n (woF ps p) row n' ps' → Walk (n + 1) ps (p :: row) n' ps'
theorem Walk.snoc {n : Nat} {ps : List (Int × Int)} {row : List Int} {n' : Nat} {qs : List (Int × Int)} {p : Int} (w : Walk n ps row (n' + 1) qs) (h0 : 0 ≤ p) (h1 : p < ((n' + 1 : Nat) : Int)) (h2 : (goalF qs p).isSome = true) : Walk n ps (row ++ [p]) n' (woF qs p) := by
  generalize hm : n' + 1 = m at w
  induction w with
  | nil n ps => subst hm; exact .cons h0 h1 h2 (.nil _ _)
  | cons a b c _ ih => exact .cons a b c (ih h2 hm)
theorem Walk.len {n : Nat} {ps : List (Int × Int)} {row : List Int} {n' : Nat} {ps' : List (Int × Int)} (w : Walk n ps row n' ps') : row.length + n' = n := by
  induction w with
  | nil n ps => simp
  | cons _ _ _ _ ih => rw [List.length_cons]; omega
theorem fold_mem {n : Nat} {ps : List (Int × Int)} {p : Int} (h : p ∈ foldF n ps) : 0 ≤ p ∧ p < n ∧ (goalF ps p).isSome = true := by
  obtain ⟨h1, h2⟩ := List.mem_filter.mp h
  obtain ⟨i, hi, rfl⟩ := List.mem_map.mp h1
  have := List.mem_range.mp hi
  exact ⟨by omega, by omega, h2⟩
def Palong (ds : List PyData) (RS : Dt → Prop) : Prop := ∃ (n : Nat) (ps : List (Int × Int)) (row : List Int) (n' : Nat) (ps' : List (Int × Int)), ds = [spD n ps, .list (row.map PyData.int)] ∧ Walk n ps row n' ps' ∧ RS (.d (spD n' ps'))
def Plwo (ds : List PyData) (RS : Dt → Prop) : Prop := ∃ (n : Nat) (ps : List (Int × Int)) (p : Int), ds = [spD n ps, .int p] ∧ n ≤ 100 ∧ 0 ≤ p ∧ p < n ∧ InRs n ps ∧ RS (.d (spD ((n : Int) - 1) (woF ps p)))
def rngI (n : Nat) : List Int := (List.range n).map fun (i : Nat) => (i : Int)
theorem rngI_len (n : Nat) : (rngI n).length = n := by unfold rngI; simp
theorem ints_rng (n : Nat) : intsD 0 n = (rngI n).map PyData.int := by rw [ints0]; unfold rngI; rw [List.map_map]; rfl
theorem find_in {α : Type} {p : α → Bool} {l : List α} {x : α} (h : l.find? p = some x) : x ∈ l := List.mem_of_find?_eq_some h
theorem at_getD {xs : List Int} {i : Int} (h0 : 0 ≤ i) (h1 : i < xs.length) : atI (xs.map PyData.int) i = some (.int (xs.getD i.toNat 0)) := at_ints h0 h1
theorem sc1 (m : Nat) : ((m + 1 : Nat) : Int) - 1 = (m : Int) := by omega
section
variable {P : Program} {w : World} {K : PySem.W.Frag} {mg : Str → Option Value} {base : Heap}
theorem scLf : FnScope ["space"] ["space"] (defScope s__law_foldable) := ⟨rfl, rfl, rfl, by decide +kernel, rfl, by decide +kernel, by decide +kernel⟩
theorem ok_Lf {f : Addr} {fd : FuncData} (F : Fun K "_law_foldable" "_law_foldable" s__law_foldable f fd) (T : Txt K mg) (GLg : Fn P w K mg base "_law_goal" 1 ["space", "point"] (spG K PgoalA)) :
    FnOk P w K mg base CX0 2 f fd ["space"] (spG K Pfoldable) := by
  refine F.okG scLf (fun ds RS h => ?_) (fun cdv A outer s H E hr => (dss_one (ds_retO (do_lc (N' := ["point", "space"]) (fun _ => (.own (.cap 0 rfl rfl rfl .nil))) (di_range1 (de_ix (dq_var 0) (de_int).bw).bw (fun _ => T.range)) (dg_name 0 (fun _ => (by decide +kernel : (["point", "space"] : List Str).Nodup))) (dif_one (dt_cmp od_isnot (de_call GLg (fun _ => hr.mono (by decide)) (da_cons (de_var 1) (da_cons (de_var 0) da_nil))).bw (de_non).bw)) (de_var 0))))) (fun ds RS h => ?_)
  · obtain ⟨n, ps, rfl, _⟩ := h; rfl
  · obtain ⟨n, ps, rfl, hn, hR⟩ := h
    simp only [sNewK, sNewK1, sPutK, xInK, xGetK, xSortD, xSum, xSumV, sPopL, sToOO, sAppOO, sForO, Dt.dk.injEq, xSortP, sExp, sNext, sSeq, sSet, sSetO, sRet, sRetO, sRetV, sIf, sFrz, sApp, xVar, xC, xVarB, xVarQ, xVarL, xSeq, xLst, x2, xB, xNot, xAnd, xNeg, xIf, xChain, xIx, xNil, xCons, xTup, xDisp, xLen, xTuple, xCat, xCatT, xCall, xCallO, xRange1, xAll, xPn, xPs, xIndex, xSlice, gN, gN2, rdI0, rdI, rdEq, rdNe, rdIn, reduceCtorEq, false_or, or_false, false_and, exists_false, exists_const, frz_d, frz_o, seqS, seq_l, seq_t, seq_scr, startD, capD, List.map_cons, List.map_nil, List.length_cons, List.length_nil, List.getElem?_cons_zero, List.getElem?_cons_succ, List.set_cons_zero, List.set_cons_succ, List.replicate_succ, List.replicate_zero, List.cons_append, List.nil_append, Option.some.injEq, Dt.d.injEq, Dt.o.injEq, PyData.int.injEq, PyData.bool.injEq, PyData.tuple.injEq, PyData.list.injEq, exists_eq_left, exists_eq_left', exists_eq_right, exists_and_left, true_and, and_true, ne_eq, not_false_eq_true, Option.getD_some, Option.getD_none, Nat.reduceAdd, Nat.reduceSub, Nat.reduceLeDiff, Nat.zero_le, Nat.le_refl, xLC, seq_sp, at0]
    refine ⟨by omega, by omega, ?_⟩
    rw [Int.toNat_natCast, ints0]
    refine ⟨Gf (List.range n) (fun (i : Nat) => PyData.int (i : Int)) (fun (i : Nat) => (goalF ps (i : Int)).isSome) (fun (i : Nat) => .int (i : Int)), fun y hy => ?_, fun o ho => ?_⟩
    · obtain ⟨i, hi, rfl⟩ := List.mem_map.mp hy
      have := List.mem_range.mp hi
      refine ⟨n, ps, (i : Int), rfl, _, rfl, ?_⟩
      rw [isNone_opt]
      cases e : goalF ps (i : Int) with
      | some x =>
        have hs : (goalF ps (i : Int)).isSome = true := by rw [e]; rfl
        rw [if_pos (show (!(some x : Option Int).isNone) = true from rfl)]
        exact Gf.keep hi hs rfl
      | none =>
        have hs : (goalF ps (i : Int)).isSome = false := by rw [e]; rfl
        rw [if_neg (show ¬ (!(none : Option Int).isNone) = true from Bool.false_ne_true)]
        exact Gf.skip hi hs
    · rw [Gf.out nat_inj ho]
      unfold foldF at hR
      rw [List.filter_map, List.map_map] at hR
      exact hR
end
section
variable {P : Program} {w : World} {K : PySem.W.Frag} {mg : Str → Option Value} {base : Heap}
theorem scCu : FnScope ["number", "gone"] ["number", "gone"] (defScope s_closed_up) := ⟨rfl, rfl, rfl, by decide +kernel, rfl, by decide +kernel, by decide +kernel⟩
theorem ok_Cu {f : Addr} {fd : FuncData} (F : Fun K "closed_up" "closed_up" s_closed_up f fd) (T : Txt K mg)  :
    FnOk P w K mg base CX0 1 f fd ["number", "gone"] (spG K Pcu) := by
  refine F.okG scCu (fun ds RS h => ?_) (fun cdv A outer s H E hr => (dss_one (ds_ret (de_if (dt_cmp od_gt (db_var 0) (db_var 1)) (de_bin od_sub (db_var 0) (de_int).bw) (de_var 0))))) (fun ds RS h => ?_)
  · obtain ⟨x, p, rfl, _⟩ := h; rfl
  · obtain ⟨x, p, rfl, hR⟩ := h
    simp only [sNewK, sNewK1, sPutK, xInK, xGetK, xSortD, xSum, xSumV, sPopL, sToOO, sAppOO, sForO, Dt.dk.injEq, xSortP, sExp, sNext, sSeq, sSet, sSetO, sRet, sRetO, sRetV, sIf, sFrz, sApp, xVar, xC, xVarB, xVarQ, xVarL, xSeq, xLst, x2, xB, xNot, xAnd, xNeg, xIf, xChain, xIx, xNil, xCons, xTup, xDisp, xLen, xTuple, xCat, xCatT, xCall, xCallO, xRange1, xAll, xPn, xPs, xIndex, xSlice, gN, gN2, rdI0, rdI, rdEq, rdNe, rdIn, reduceCtorEq, false_or, or_false, false_and, exists_false, exists_const, frz_d, frz_o, seqS, seq_l, seq_t, seq_scr, startD, capD, List.map_cons, List.map_nil, List.length_cons, List.length_nil, List.getElem?_cons_zero, List.getElem?_cons_succ, List.set_cons_zero, List.set_cons_succ, List.replicate_succ, List.replicate_zero, List.cons_append, List.nil_append, Option.some.injEq, Dt.d.injEq, Dt.o.injEq, PyData.int.injEq, PyData.bool.injEq, PyData.tuple.injEq, PyData.list.injEq, exists_eq_left, exists_eq_left', exists_eq_right, exists_and_left, true_and, and_true, ne_eq, not_false_eq_true, Option.getD_some, Option.getD_none, Nat.reduceAdd, Nat.reduceSub, Nat.reduceLeDiff, Nat.zero_le, Nat.le_refl]
    unfold cu at hR
    refine ite2 (fun e => ?_) (fun e => ?_)
    · rw [if_pos (of_decide_eq_true e)] at hR
      exact hR
    · rw [if_neg (fun z => e (decide_eq_true z))] at hR
      exact hR
end
section
variable {P : Program} {w : World} {K : PySem.W.Frag} {mg : Str → Option Value} {base : Heap}
theorem scWo : FnScope ["space", "point", "ties"] ["space", "point"] (defScope s_without) := ⟨rfl, rfl, rfl, by decide +kernel, rfl, by decide +kernel, by decide +kernel⟩
theorem ok_Wo {f : Addr} {fd : FuncData} (F : Fun K "without" "without" s_without f fd) (T : Txt K mg) (GCu : Fn P w K mg base "closed_up" 1 ["number", "gone"] (spG K Pcu)) :
    FnOk P w K mg base CX0 2 f fd ["space", "point"] (spG K Pwo) := by
  refine F.okG scWo (fun ds RS h => ?_) (fun cdv A outer s H E hr => (dss_cons (ds_setlc 2 (fun _ => scWo.nd) (N' := ["a", "b", "point"]) (fun _ => (.own (.own (.cap 1 rfl rfl rfl .nil)))) (di_seq (de_ix (dq_var 0) (de_int).bw)) (dg_tup2 0 1 (fun _ => (by decide +kernel : (["a", "b", "point"] : List Str).Nodup))) (dif_one ((dw_and (dt_cmp (od_ne (fun _ => room_u hr (by decide))) (db_var 2) (db_var 0)) (dw_and1 (dt_cmp (od_ne (fun _ => room_u hr (by decide))) (db_var 2) (db_var 1)))).t)) (de_tup (da_cons (de_call GCu (fun _ => hr.mono (by decide)) (da_cons (de_var 0) (da_cons (de_var 2) da_nil))) (da_cons (de_call GCu (fun _ => hr.mono (by decide)) (da_cons (de_var 1) (da_cons (de_var 2) da_nil))) da_nil))))
      (DSs.frz 2 (dss_one (ds_ret (de_tup (da_cons (de_bin od_sub (de_ix (dq_var 0) (de_int).bw).bw (de_int).bw) (da_cons (de_tupleV 2 (fun _ => T.tuple)) da_nil)))))))) (fun ds RS h => ?_)
  · obtain ⟨n, ps, p, rfl, _⟩ := h; rfl
  · obtain ⟨n, ps, p, rfl, hR⟩ := h
    simp only [sNewK, sNewK1, sPutK, xInK, xGetK, xSortD, xSum, xSumV, sPopL, sToOO, sAppOO, sForO, Dt.dk.injEq, xSortP, sExp, sNext, sSeq, sSet, sSetO, sRet, sRetO, sRetV, sIf, sFrz, sApp, xVar, xC, xVarB, xVarQ, xVarL, xSeq, xLst, x2, xB, xNot, xAnd, xNeg, xIf, xChain, xIx, xNil, xCons, xTup, xDisp, xLen, xTuple, xCat, xCatT, xCall, xCallO, xRange1, xAll, xPn, xPs, xIndex, xSlice, gN, gN2, rdI0, rdI, rdEq, rdNe, rdIn, reduceCtorEq, false_or, or_false, false_and, exists_false, exists_const, frz_d, frz_o, seqS, seq_l, seq_t, seq_scr, startD, capD, List.map_cons, List.map_nil, List.length_cons, List.length_nil, List.getElem?_cons_zero, List.getElem?_cons_succ, List.set_cons_zero, List.set_cons_succ, List.replicate_succ, List.replicate_zero, List.cons_append, List.nil_append, Option.some.injEq, Dt.d.injEq, Dt.o.injEq, PyData.int.injEq, PyData.bool.injEq, PyData.tuple.injEq, PyData.list.injEq, exists_eq_left, exists_eq_left', exists_eq_right, exists_and_left, true_and, and_true, ne_eq, not_false_eq_true, Option.getD_some, Option.getD_none, Nat.reduceAdd, Nat.reduceSub, Nat.reduceLeDiff, Nat.zero_le, Nat.le_refl, xLC, seq_sp, at0, at1]
    refine ⟨Gf ps pD (fun q => decide (p ≠ q.1) && decide (p ≠ q.2)) (fun q => pD (cu2 p q)), fun y hy => ?_, fun o ho => ?_⟩
    · obtain ⟨q, hq, rfl⟩ := List.mem_map.mp hy
      have go : (decide (p ≠ q.1) && decide (p ≠ q.2)) = true → Pcu [.int q.1, .int p] fun dt => ∃ d, frzD dt = some d ∧ Pcu [.int q.2, .int p] fun dt => ∃ d_1, frzD dt = some d_1 ∧ Gf ps pD (fun q => decide (p ≠ q.1) && decide (p ≠ q.2)) (fun q => pD (cu2 p q)) (pD q) (some (.tuple [d, d_1])) := fun e => ⟨_, _, rfl, _, rfl, _, _, rfl, _, rfl, Gf.keep hq e rfl⟩
      refine ⟨_, _, rfl, okI _, okI _, .inl (shI _), ?_⟩
      rw [eqv_int]
      refine ite2 (fun e => ⟨okI _, okI _, .inl (shI _), ?_⟩) (fun e => Gf.skip hq ?_)
      · rw [eqv_int]
        refine ite2 (fun e2 => go (by simp at e e2 ⊢; exact ⟨e, e2⟩)) (fun e2 => Gf.skip hq (by simp at e e2 ⊢; intro _; exact e2))
      · simp at e ⊢
        intro z; exact absurd e z
    · rw [Gf.out pD_inj ho]
      unfold woF at hR
      rw [show spD (n - 1) ((ps.filter fun q => decide (p ≠ q.1) && decide (p ≠ q.2)).map (cu2 p)) = .tuple [.int (n - 1), .tuple ((ps.filter fun q => decide (p ≠ q.1) && decide (p ≠ q.2)).map fun q => pD (cu2 p q))] by unfold spD; rw [List.map_map]; rfl] at hR
      exact hR
end
section
variable {P : Program} {w : World} {K : PySem.W.Frag} {mg : Str → Option Value} {base : Heap}
theorem scLo : FnScope ["space", "point", "names", "ties"] ["space", "point"] (defScope s__law_without) := ⟨rfl, rfl, rfl, by decide +kernel, rfl, by decide +kernel, by decide +kernel⟩
theorem ok_Lo {f : Addr} {fd : FuncData} (F : Fun K "_law_without" "_law_without" s__law_without f fd) (T : Txt K mg)  :
    FnOk P w K mg base CX0 1 f fd ["space", "point"] (spG K Plwo) := by
  refine F.okG scLo (fun ds RS h => ?_) (fun cdv A outer s H E hr => (dss_cons (ds_set 2 (fun _ => scLo.nd) ((do_lc (N' := ["one", "point"]) (fun _ => (.own (.cap 1 rfl rfl rfl .nil))) (di_range1 (de_ix (dq_var 0) (de_int).bw).bw (fun _ => T.range)) (dg_name 0 (fun _ => (by decide +kernel : (["one", "point"] : List Str).Nodup))) (dif_one (dt_cmp (od_ne (fun _ => room_u hr (by decide))) (db_var 0) (db_var 1))) (de_var 0)).ew))
      (dss_cons (ds_setlc 3 (fun _ => scLo.nd) (N' := ["a", "b", "names", "point"]) (fun _ => (.own (.own (.cap 2 rfl rfl rfl (.cap 1 rfl rfl rfl .nil))))) (di_seq (de_ix (dq_var 0) (de_int).bw)) (dg_tup2 0 1 (fun _ => (by decide +kernel : (["a", "b", "names", "point"] : List Str).Nodup))) (dif_one ((dw_and (dt_cmp (od_ne (fun _ => room_u hr (by decide))) (db_var 0) (db_var 3)) (dw_and1 (dt_cmp (od_ne (fun _ => room_u hr (by decide))) (db_var 1) (db_var 3)))).t)) (de_tup (da_cons (de_index (dl_var 2) (db_var 0)) (da_cons (de_index (dl_var 2) (db_var 1)) da_nil))))
      (DSs.frz 3 (dss_one (ds_ret (de_tup (da_cons (de_bin od_sub (de_ix (dq_var 0) (de_int).bw).bw (de_int).bw) (da_cons (de_tupleV 3 (fun _ => T.tuple)) da_nil))))))))) (fun ds RS h => ?_)
  · obtain ⟨n, ps, p, rfl, _⟩ := h; rfl
  · obtain ⟨n, ps, p, rfl, hn, h0, h1, hin, hR⟩ := h
    refine seq_d (fun env => env = [.d (spD n ps), .d (.int p), .d (.list ((nmF n p).map PyData.int)), .un]) (fun N hN => ?_) ?_
    · simp only [sNewK, sNewK1, sPutK, xInK, xGetK, xSortD, xSum, xSumV, sPopL, sToOO, sAppOO, sForO, Dt.dk.injEq, xSortP, sExp, sNext, sSeq, sSet, sSetO, sRet, sRetO, sRetV, sIf, sFrz, sApp, xVar, xC, xVarB, xVarQ, xVarL, xSeq, xLst, x2, xB, xNot, xAnd, xNeg, xIf, xChain, xIx, xNil, xCons, xTup, xDisp, xLen, xTuple, xCat, xCatT, xCall, xCallO, xRange1, xAll, xPn, xPs, xIndex, xSlice, gN, gN2, rdI0, rdI, rdEq, rdNe, rdIn, reduceCtorEq, false_or, or_false, false_and, exists_false, exists_const, frz_d, frz_o, seqS, seq_l, seq_t, seq_scr, startD, capD, List.map_cons, List.map_nil, List.length_cons, List.length_nil, List.getElem?_cons_zero, List.getElem?_cons_succ, List.set_cons_zero, List.set_cons_succ, List.replicate_succ, List.replicate_zero, List.cons_append, List.nil_append, Option.some.injEq, Dt.d.injEq, Dt.o.injEq, PyData.int.injEq, PyData.bool.injEq, PyData.tuple.injEq, PyData.list.injEq, exists_eq_left, exists_eq_left', exists_eq_right, exists_and_left, true_and, and_true, ne_eq, not_false_eq_true, Option.getD_some, Option.getD_none, Nat.reduceAdd, Nat.reduceSub, Nat.reduceLeDiff, Nat.zero_le, Nat.le_refl, xLC, seq_sp, at0]
      refine ⟨by omega, by omega, ?_⟩
      rw [Int.toNat_natCast, ints0, show (List.range n).map (fun (i : Nat) => PyData.int (i : Int)) = (((List.range n).map fun (i : Nat) => (i : Int))).map PyData.int by rw [List.map_map]; rfl]
      refine ⟨Gf ((List.range n).map fun (i : Nat) => (i : Int)) PyData.int (fun i => !decide (i = p)) PyData.int, fun y hy => ?_, fun o ho => ?_⟩
      · obtain ⟨i, hi, rfl⟩ := List.mem_map.mp hy
        refine ⟨okI _, okI _, .inl (shI _), ?_⟩
        rw [eqv_int]
        exact ite2 (fun e => Gf.keep hi e rfl) (fun e => Gf.skip hi (by simpa using e))
      rw [Gf.out int_inj ho]
      exact hN _ rfl
    rintro env rfl
    refine seq_d (fun env => env = [.d (spD n ps), .d (.int p), .d (.list ((nmF n p).map PyData.int)), .o ((woF ps p).map pD)]) (fun N hN => ?_) ?_
    · simp only [sNewK, sNewK1, sPutK, xInK, xGetK, xSortD, xSum, xSumV, sPopL, sToOO, sAppOO, sForO, Dt.dk.injEq, xSortP, sExp, sNext, sSeq, sSet, sSetO, sRet, sRetO, sRetV, sIf, sFrz, sApp, xVar, xC, xVarB, xVarQ, xVarL, xSeq, xLst, x2, xB, xNot, xAnd, xNeg, xIf, xChain, xIx, xNil, xCons, xTup, xDisp, xLen, xTuple, xCat, xCatT, xCall, xCallO, xRange1, xAll, xPn, xPs, xIndex, xSlice, gN, gN2, rdI0, rdI, rdEq, rdNe, rdIn, reduceCtorEq, false_or, or_false, false_and, exists_false, exists_const, frz_d, frz_o, seqS, seq_l, seq_t, seq_scr, startD, capD, List.map_cons, List.map_nil, List.length_cons, List.length_nil, List.getElem?_cons_zero, List.getElem?_cons_succ, List.set_cons_zero, List.set_cons_succ, List.replicate_succ, List.replicate_zero, List.cons_append, List.nil_append, Option.some.injEq, Dt.d.injEq, Dt.o.injEq, PyData.int.injEq, PyData.bool.injEq, PyData.tuple.injEq, PyData.list.injEq, exists_eq_left, exists_eq_left', exists_eq_right, exists_and_left, true_and, and_true, ne_eq, not_false_eq_true, Option.getD_some, Option.getD_none, Nat.reduceAdd, Nat.reduceSub, Nat.reduceLeDiff, Nat.zero_le, Nat.le_refl, xLC, seq_sp, at1]
      refine ⟨Gf ps pD (fun q => decide (p ≠ q.1) && decide (p ≠ q.2)) (fun q => pD (cu2 p q)), fun y hy => ?_, fun o ho2 => ?_⟩
      · obtain ⟨q, hq, rfl⟩ := List.mem_map.mp hy
        obtain ⟨a, b, c, d⟩ := hin q hq
        refine ⟨_, _, rfl, okI _, okI _, .inl (shI _), ?_⟩
        rw [eqv_int]
        refine ite2 (fun e => ⟨okI _, okI _, .inl (shI _), ?_⟩) (fun e => ?_)
        · rw [eqv_int]
          have n1 : q.1 ≠ p := by simpa using e
          refine ite2 (fun e2 => ?_) (fun e2 => Gf.skip hq ?_)
          · have n2 : q.2 ≠ p := by simpa using e2
            obtain ⟨m1, i1⟩ := nm_idx h0 h1 a b n1
            obtain ⟨m2, i2⟩ := nm_idx h0 h1 c d n2
            refine ⟨nmF n p, rfl, q.1, rfl, m1, nmF n p, rfl, q.2, rfl, m2, ?_⟩
            rw [i1, i2]
            exact Gf.keep hq (by simp; exact ⟨Ne.symm n1, Ne.symm n2⟩) rfl
          · have n2 : q.2 = p := by simpa using e2
            simp [n2]
        · rw [if_neg (fun z => z)]
          have n1 : q.1 = p := by simpa using e
          exact Gf.skip hq (by simp [n1])
      · rw [Gf.out pD_inj ho2]
        exact hN _ (by unfold woF; rw [List.map_map]; rfl)
    rintro env rfl
    refine ⟨_, rfl, ?_⟩
    simp only [sNewK, sNewK1, sPutK, xInK, xGetK, xSortD, xSum, xSumV, sPopL, sToOO, sAppOO, sForO, Dt.dk.injEq, xSortP, sExp, sNext, sSeq, sSet, sSetO, sRet, sRetO, sRetV, sIf, sFrz, sApp, xVar, xC, xVarB, xVarQ, xVarL, xSeq, xLst, x2, xB, xNot, xAnd, xNeg, xIf, xChain, xIx, xNil, xCons, xTup, xDisp, xLen, xTuple, xCat, xCatT, xCall, xCallO, xRange1, xAll, xPn, xPs, xIndex, xSlice, gN, gN2, rdI0, rdI, rdEq, rdNe, rdIn, reduceCtorEq, false_or, or_false, false_and, exists_false, exists_const, frz_d, frz_o, seqS, seq_l, seq_t, seq_scr, startD, capD, List.map_cons, List.map_nil, List.length_cons, List.length_nil, List.getElem?_cons_zero, List.getElem?_cons_succ, List.set_cons_zero, List.set_cons_succ, List.replicate_succ, List.replicate_zero, List.cons_append, List.nil_append, Option.some.injEq, Dt.d.injEq, Dt.o.injEq, PyData.int.injEq, PyData.bool.injEq, PyData.tuple.injEq, PyData.list.injEq, exists_eq_left, exists_eq_left', exists_eq_right, exists_and_left, true_and, and_true, ne_eq, not_false_eq_true, Option.getD_some, Option.getD_none, Nat.reduceAdd, Nat.reduceSub, Nat.reduceLeDiff, Nat.zero_le, Nat.le_refl, seq_sp, at0]
    exact hR
end
section
variable {P : Program} {w : World} {K : PySem.W.Frag} {mg : Str → Option Value} {base : Heap}
theorem scFo : FnScope ["space", "point"] ["space", "point"] (defScope s_folded) := ⟨rfl, rfl, rfl, by decide +kernel, rfl, by decide +kernel, by decide +kernel⟩
theorem ok_Fo {f : Addr} {fd : FuncData} (F : Fun K "folded" "folded" s_folded f fd) (T : Txt K mg) (GGo : Fn P w K mg base "goal" 3 ["space", "point"] (spG K Pgoal)) (GWo : Fn P w K mg base "without" 2 ["space", "point"] (spG K Pwo)) :
    FnOk P w K mg base CX0 4 f fd ["space", "point"] (spG K Pfolded) := by
  refine F.okG scFo (fun ds RS h => ?_) (fun cdv A outer s H E hr => (dss_cons (ds_if (dt_cmp od_is (de_call GGo (fun _ => hr.mono (by decide)) (da_cons (de_var 0) (da_cons (de_var 1) da_nil))).bw (de_non).bw) (dss_one (ds_never)) dss_nil)
      (dss_one (ds_ret (de_call GWo (fun _ => hr.mono (by decide)) (da_cons (de_var 0) (da_cons (de_var 1) da_nil))))))) (fun ds RS h => ?_)
  · obtain ⟨n, ps, p, rfl, _⟩ := h; rfl
  · obtain ⟨n, ps, p, rfl, h0, h1, h2, hR⟩ := h
    simp only [sNewK, sNewK1, sPutK, xInK, xGetK, xSortD, xSum, xSumV, sPopL, sToOO, sAppOO, sForO, Dt.dk.injEq, xSortP, sExp, sNext, sSeq, sSet, sSetO, sRet, sRetO, sRetV, sIf, sFrz, sApp, xVar, xC, xVarB, xVarQ, xVarL, xSeq, xLst, x2, xB, xNot, xAnd, xNeg, xIf, xChain, xIx, xNil, xCons, xTup, xDisp, xLen, xTuple, xCat, xCatT, xCall, xCallO, xRange1, xAll, xPn, xPs, xIndex, xSlice, gN, gN2, rdI0, rdI, rdEq, rdNe, rdIn, reduceCtorEq, false_or, or_false, false_and, exists_false, exists_const, frz_d, frz_o, seqS, seq_l, seq_t, seq_scr, startD, capD, List.map_cons, List.map_nil, List.length_cons, List.length_nil, List.getElem?_cons_zero, List.getElem?_cons_succ, List.set_cons_zero, List.set_cons_succ, List.replicate_succ, List.replicate_zero, List.cons_append, List.nil_append, Option.some.injEq, Dt.d.injEq, Dt.o.injEq, PyData.int.injEq, PyData.bool.injEq, PyData.tuple.injEq, PyData.list.injEq, exists_eq_left, exists_eq_left', exists_eq_right, exists_and_left, true_and, and_true, ne_eq, not_false_eq_true, Option.getD_some, Option.getD_none, Nat.reduceAdd, Nat.reduceSub, Nat.reduceLeDiff, Nat.zero_le, Nat.le_refl]
    refine ⟨n, ps, p, rfl, h0, h1, _, rfl, ?_⟩
    rw [isNone_opt]
    refine iteN ?_ ⟨n, ps, p, rfl, _, rfl, hR⟩
    cases e : goalF ps p with
    | some x => rfl
    | none => rw [e] at h2; cases h2
end
section
variable {P : Program} {w : World} {K : PySem.W.Frag} {mg : Str → Option Value} {base : Heap}
theorem scAl : FnScope ["space", "row", "here", "point"] ["space", "row"] (defScope s_along) := ⟨rfl, rfl, rfl, by decide +kernel, rfl, by decide +kernel, by decide +kernel⟩
theorem ok_Al {f : Addr} {fd : FuncData} (F : Fun K "along" "along" s_along f fd) (T : Txt K mg) (GFo : Fn P w K mg base "folded" 4 ["space", "point"] (spG K Pfolded)) :
    FnOk P w K mg base CX0 5 f fd ["space", "row"] (spG K Palong) := by
  refine F.okG scAl (fun ds RS h => ?_) (fun cdv A outer s H E hr => (dss_cons (ds_set 2 (fun _ => scAl.nd) (de_var 0))
      (dss_cons (ds_for (fun _ => PassesOwn.never) (di_seq (de_var 1)) (dg_name 3 (fun _ => scAl.nd)) (dss_one (ds_set 2 (fun _ => scAl.nd) (de_call GFo (fun _ => hr.mono (by decide)) (da_cons (de_var 2) (da_cons (de_var 3) da_nil))))))
      (dss_one (ds_retV 2))))) (fun ds RS h => ?_)
  · obtain ⟨n, ps, row, n', ps', rfl, _⟩ := h; rfl
  · obtain ⟨n, ps, row, n', ps', rfl, hw, hR⟩ := h
    refine ⟨_, rfl, _, rfl, _, rfl, fun k env => ∃ (a : Nat) (qs : List (Int × Int)) (v : Dt), env = [.d (spD n ps), .d (.list (row.map PyData.int)), .d (spD a qs), v] ∧ Walk a qs (row.drop k) n' ps', ⟨n, ps, _, rfl, hw⟩, ?_, ?_⟩
    · rintro k y env hy ⟨a, qs, v, rfl, w⟩
      rw [List.getElem?_map] at hy
      obtain ⟨p, hp, rfl⟩ := Option.map_eq_some_iff.mp hy
      obtain ⟨hk, e⟩ := List.getElem?_eq_some_iff.mp hp
      rw [List.drop_eq_getElem_cons hk, e] at w
      cases w with
      | @cons m _ _ _ _ _ h0 h1 h2 w =>
        simp only [sNewK, sNewK1, sPutK, xInK, xGetK, xSortD, xSum, xSumV, sPopL, sToOO, sAppOO, sForO, Dt.dk.injEq, xSortP, sExp, sNext, sSeq, sSet, sSetO, sRet, sRetO, sRetV, sIf, sFrz, sApp, xVar, xC, xVarB, xVarQ, xVarL, xSeq, xLst, x2, xB, xNot, xAnd, xNeg, xIf, xChain, xIx, xNil, xCons, xTup, xDisp, xLen, xTuple, xCat, xCatT, xCall, xCallO, xRange1, xAll, xPn, xPs, xIndex, xSlice, gN, gN2, rdI0, rdI, rdEq, rdNe, rdIn, reduceCtorEq, false_or, or_false, false_and, exists_false, exists_const, frz_d, frz_o, seqS, seq_l, seq_t, seq_scr, startD, capD, List.map_cons, List.map_nil, List.length_cons, List.length_nil, List.getElem?_cons_zero, List.getElem?_cons_succ, List.set_cons_zero, List.set_cons_succ, List.replicate_succ, List.replicate_zero, List.cons_append, List.nil_append, Option.some.injEq, Dt.d.injEq, Dt.o.injEq, PyData.int.injEq, PyData.bool.injEq, PyData.tuple.injEq, PyData.list.injEq, exists_eq_left, exists_eq_left', exists_eq_right, exists_and_left, true_and, and_true, ne_eq, not_false_eq_true, Option.getD_some, Option.getD_none, Nat.reduceAdd, Nat.reduceSub, Nat.reduceLeDiff, Nat.zero_le, Nat.le_refl]
        refine ⟨_, qs, p, rfl, h0, h1, h2, _, rfl, m, _, _, by rw [sc1], w⟩
    · rintro env ⟨a, qs, v, rfl, w⟩
      rw [List.length_map, List.drop_length] at w
      cases w
      exact ⟨_, rfl, (fun z => by cases z), hR⟩
end
theorem rngI_mem {n : Nat} {x : Int} : x ∈ rngI n ↔ 0 ≤ x ∧ x < (n : Int) := by
  unfold rngI
  rw [List.mem_map]
  constructor
  · rintro ⟨i, hi, rfl⟩
    have := List.mem_range.mp hi
    omega
  · rintro ⟨h1, h2⟩
    exact ⟨x.toNat, List.mem_range.mpr (by omega), by omega⟩
theorem rngI_nd (n : Nat) : (rngI n).Nodup := by
  unfold rngI
  rw [List.nodup_iff_pairwise_ne, List.pairwise_map]
  exact List.nodup_range.imp fun h z => h (by omega)
structure Ordr (ps : List (Int × Int)) : Prop where
  irr : ∀ x, (x, x) ∉ ps
  trs : ∀ x y z, (x, y) ∈ ps → (y, z) ∈ ps → (x, z) ∈ ps
theorem IsSp.ord {n : Nat} {ps : List (Int × Int)} (h : IsSp n ps) : Ordr ps := by
  obtain ⟨t, rfl, h1, h2⟩ := h
  refine ⟨fun x hx => ?_, fun x y z hx hy => ?_⟩
  · obtain ⟨a, b, ha, hb, ht, e⟩ := mem_pairsOf.mp hx
    have e1 : x = (a : Int) := congrArg Prod.fst e
    have e2 : x = (b : Int) := congrArg Prod.snd e
    have : a = b := by omega
    subst this
    rw [h1 a ha] at ht
    cases ht
  · obtain ⟨a, b, ha, hb, ht, e⟩ := mem_pairsOf.mp hx
    obtain ⟨c, d, hc, hd, hu, e'⟩ := mem_pairsOf.mp hy
    have e1 : x = (a : Int) := congrArg Prod.fst e
    have e2 : y = (b : Int) := congrArg Prod.snd e
    have e3 : y = (c : Int) := congrArg Prod.fst e'
    have e4 : z = (d : Int) := congrArg Prod.snd e'
    have : b = c := by omega
    subst this
    rw [e1, e4]
    exact mem_pairsOf'.mpr ⟨ha, hd, h2 a b d ha hb hd ht hu⟩
theorem IsSp.nd {n : Nat} {ps : List (Int × Int)} (h : IsSp n ps) : ps.Nodup := by
  obtain ⟨t, rfl, _⟩ := h
  unfold pairsOf
  rw [List.nodup_iff_pairwise_ne, List.pairwise_flatMap]
  refine ⟨fun a _ => ?_, ?_⟩
  · unfold rowOf
    rw [List.pairwise_map]
    exact (List.nodup_range.filter _).imp fun h z => h (by have := congrArg Prod.snd z; dsimp only at this; omega)
  · refine List.nodup_range.imp fun {a b} hab x hx y hy z => hab ?_
    unfold rowOf at hx hy
    obtain ⟨_, _, rfl⟩ := List.mem_map.mp hx
    obtain ⟨_, _, rfl⟩ := List.mem_map.mp hy
    have := congrArg Prod.fst z
    dsimp only at this
    omega
theorem sub_len {α : Type} [DecidableEq α] : ∀ {l m : List α}, l.Nodup → (∀ x ∈ l, x ∈ m) → l.length ≤ m.length
  | [], _, _, _ => Nat.zero_le _
  | x :: l, m, nd, h => by
    have nd := List.nodup_cons.mp nd
    have hx : x ∈ m := h x List.mem_cons_self
    have := sub_len (l := l) (m := m.erase x) nd.2 fun y hy => (List.mem_erase_of_ne (fun z => nd.1 (by rw [← z]; exact hy))).mpr (h y (List.mem_cons_of_mem _ hy))
    rw [List.length_erase_of_mem hx] at this
    have := List.length_pos_of_mem hx
    rw [List.length_cons]; omega
def InRg (n : Nat) (ps : List (Int × Int)) : Prop := ∀ q ∈ ps, q.1 ∈ rngI n ∧ q.2 ∈ rngI n
def adj (ps : List (Int × Int)) (a b : Int) : Prop := (a, b) ∈ ps ∨ (b, a) ∈ ps
theorem adj.symm {ps : List (Int × Int)} {a b : Int} (h : adj ps a b) : adj ps b a := Or.comm.mp h
inductive Cn (ps : List (Int × Int)) : Int → Int → Prop
  | rfl (a : Int) : Cn ps a a
  | step {a b c : Int} : adj ps a b → Cn ps b c → Cn ps a c
section
variable {ps : List (Int × Int)} {n : Nat}
theorem Cn.trans {a b c : Int} (h : Cn ps a b) (h' : Cn ps b c) : Cn ps a c := by
  induction h with
  | rfl a => exact h'
  | step e _ ih => exact .step e (ih h')
theorem Cn.one {a b : Int} (h : adj ps a b) : Cn ps a b := .step h (.rfl b)
theorem Cn.symm {a b : Int} (h : Cn ps a b) : Cn ps b a := by
  induction h with
  | rfl a => exact .rfl a
  | step e _ ih => exact ih.trans (.one e.symm)
theorem adj.inr (hin : InRg n ps) {a b : Int} (h : adj ps a b) : b ∈ rngI n := by
  rcases h with h | h
  · exact (hin _ h).2
  · exact (hin _ h).1
theorem Cn.inr (hin : InRg n ps) {a b : Int} (h : Cn ps a b) (ha : a ∈ rngI n) : b ∈ rngI n := by
  induction h with
  | rfl a => exact ha
  | step e _ ih => exact ih (e.inr hin)
noncomputable def cnB (ps : List (Int × Int)) (a b : Int) : Bool := @decide (Cn ps a b) (Classical.propDecidable _)
theorem cnB_iff {a b : Int} : cnB ps a b = true ↔ Cn ps a b := @decide_eq_true_iff _ (Classical.propDecidable _)
inductive Wk (ps : List (Int × Int)) : Nat → Int → Int → Prop
  | rfl (k : Nat) (a : Int) : Wk ps k a a
  | step {k : Nat} {a b c : Int} : adj ps a b → Wk ps k b c → Wk ps (k + 1) a c
inductive Pth (ps : List (Int × Int)) : List Int → Int → Int → Prop
  | one (a : Int) : Pth ps [a] a a
  | cons {l : List Int} {a b c : Int} : adj ps a b → Pth ps l b c → Pth ps (a :: l) a c
theorem Pth.cut {l : List Int} {a c x : Int} (h : Pth ps l a c) (hx : x ∈ l) : ∃ l', Pth ps l' x c ∧ l'.Sublist l := by
  induction h with
  | one a => rw [List.mem_singleton.mp hx]; exact ⟨[a], .one a, List.Sublist.refl _⟩
  | @cons l a b c e h ih =>
    rcases List.mem_cons.mp hx with rfl | hx
    · exact ⟨_, .cons e h, List.Sublist.refl _⟩
    · obtain ⟨l', h1, h2⟩ := ih hx
      exact ⟨l', h1, h2.cons _⟩
theorem Cn.pth {a c : Int} (h : Cn ps a c) : ∃ l, Pth ps l a c ∧ l.Nodup := by
  induction h with
  | rfl a => exact ⟨[a], .one a, by simp⟩
  | @step a b c e _ ih =>
    obtain ⟨l, h1, h2⟩ := ih
    by_cases ha : a ∈ l
    · obtain ⟨l', k1, k2⟩ := h1.cut ha
      exact ⟨l', k1, h2.sublist k2⟩
    · exact ⟨a :: l, .cons e h1, List.nodup_cons.mpr ⟨ha, h2⟩⟩
theorem Pth.wk {l : List Int} {a c : Int} (h : Pth ps l a c) : ∀ k, l.length ≤ k → Wk ps k a c := by
  induction h with
  | one a => exact fun k _ => .rfl k a
  | cons e _ ih =>
    intro k hk
    rw [List.length_cons] at hk
    cases k with
    | zero => omega
    | succ k => exact .step e (ih k (by omega))
theorem Pth.mem (hin : InRg n ps) {l : List Int} {a c : Int} (h : Pth ps l a c) (ha : a ∈ rngI n) : ∀ x ∈ l, x ∈ rngI n := by
  induction h with
  | one a => intro x hx; rw [List.mem_singleton.mp hx]; exact ha
  | cons e _ ih =>
    intro x hx
    rcases List.mem_cons.mp hx with rfl | hx
    · exact ha
    · exact ih (e.inr hin) x hx
theorem Cn.wk (hin : InRg n ps) {a c : Int} (h : Cn ps a c) (ha : a ∈ rngI n) : Wk ps n a c := by
  obtain ⟨l, h1, h2⟩ := h.pth
  refine h1.wk n ?_
  have := sub_len h2 (h1.mem hin ha)
  rwa [rngI_len] at this
def ld1 (l : Int → Int) (q : Int × Int) : Int → Int := fun x => if x = q.1 ∨ x = q.2 then (if l q.2 < l q.1 then l q.2 else l q.1) else l x
def trnF (ps : List (Int × Int)) (l : Int → Int) : Int → Int := ps.foldl ld1 l
def leadF (ps : List (Int × Int)) : Nat → Int → Int
  | 0 => fun x => x
  | k + 1 => trnF ps (leadF ps k)
theorem ld1_le (l : Int → Int) (q : Int × Int) (x : Int) : ld1 l q x ≤ l x := by
  unfold ld1
  by_cases h : x = q.1 ∨ x = q.2
  · rw [if_pos h]
    rcases h with rfl | rfl <;> (split <;> omega)
  · rw [if_neg h]; exact Int.le_refl _
theorem trn_le : ∀ (ps : List (Int × Int)) (l : Int → Int) (x : Int), trnF ps l x ≤ l x
  | [], l, x => Int.le_refl _
  | q :: ps, l, x => Int.le_trans (trn_le ps (ld1 l q) x) (ld1_le l q x)
theorem trn_edge : ∀ (ps : List (Int × Int)) (l : Int → Int) (a b : Int), (a, b) ∈ ps → trnF ps l a ≤ l b ∧ trnF ps l b ≤ l a
  | [], _, _, _, h => by cases h
  | q :: ps, l, a, b, h => by
    rcases List.mem_cons.mp h with rfl | h
    · have e : ∀ x, x = a ∨ x = b → ld1 l (a, b) x ≤ l a ∧ ld1 l (a, b) x ≤ l b := fun x hx => by
        unfold ld1
        rw [if_pos hx]
        dsimp only
        split <;> omega
      have h1 := trn_le ps (ld1 l (a, b)) a
      have h2 := trn_le ps (ld1 l (a, b)) b
      have e1 := e a (.inl rfl)
      have e2 := e b (.inr rfl)
      exact ⟨Int.le_trans h1 e1.2, Int.le_trans h2 e2.1⟩
    · have ih := trn_edge ps (ld1 l q) a b h
      exact ⟨Int.le_trans ih.1 (ld1_le l q b), Int.le_trans ih.2 (ld1_le l q a)⟩
theorem lead_le (k : Nat) (x : Int) : leadF ps k x ≤ x := by
  induction k with
  | zero => exact Int.le_refl _
  | succ k ih => exact Int.le_trans (trn_le ps (leadF ps k) x) ih
theorem lead_wk {k : Nat} {a c : Int} (h : Wk ps k a c) : leadF ps k a ≤ c := by
  induction h with
  | rfl k a => exact lead_le k a
  | @step k a b c e _ ih =>
    rcases e with e | e
    · exact Int.le_trans (trn_edge ps (leadF ps k) a b e).1 ih
    · exact Int.le_trans (trn_edge ps (leadF ps k) b a e).2 ih
theorem trn_cn {ps' : List (Int × Int)} (hs : ∀ q ∈ ps', q ∈ ps) : ∀ {l : Int → Int}, (∀ x, Cn ps x (l x)) → ∀ x, Cn ps x (trnF ps' l x) := by
  induction ps' with
  | nil => exact fun h => h
  | cons q ps' ih =>
    intro l h
    refine ih (fun r hr => hs r (List.mem_cons_of_mem _ hr)) fun x => ?_
    have e : adj ps q.1 q.2 := .inl (hs q List.mem_cons_self)
    unfold ld1
    by_cases hx : x = q.1 ∨ x = q.2
    · rw [if_pos hx]
      rcases hx with rfl | rfl
      · split
        · exact (Cn.one e).trans (h _)
        · exact h _
      · split
        · exact h _
        · exact (Cn.one e.symm).trans (h _)
    · rw [if_neg hx]; exact h x
theorem lead_cn (k : Nat) (x : Int) : Cn ps x (leadF ps k x) := by
  induction k generalizing x with
  | zero => exact .rfl x
  | succ k ih => exact trn_cn (fun q h => h) ih x
theorem lead_same (hin : InRg n ps) {a b : Int} (ha : a ∈ rngI n) (h : Cn ps a b) : leadF ps n a = leadF ps n b := by
  have hb := h.inr hin ha
  have h1 := lead_wk ((h.trans (lead_cn n b)).wk hin ha)
  have h2 := lead_wk ((h.symm.trans (lead_cn n a)).wk hin hb)
  omega
def isL (ps : List (Int × Int)) (p : Int) : Prop := ∀ q, Cn ps p q → p ≤ q
theorem lead_isL (hin : InRg n ps) {p : Int} (hp : p ∈ rngI n) : leadF ps n p = p ↔ isL ps p := by
  constructor
  · intro h q hq
    have := lead_wk (hq.wk hin hp)
    omega
  · intro h
    have h1 := h _ (lead_cn n p)
    have h2 := lead_le (ps := ps) n p
    omega
noncomputable def lB (ps : List (Int × Int)) (p : Int) : Bool := @decide (isL ps p) (Classical.propDecidable _)
theorem lB_iff {p : Int} : lB ps p = true ↔ isL ps p := @decide_eq_true_iff _ (Classical.propDecidable _)
noncomputable def pcF (n : Nat) (ps : List (Int × Int)) (p : Int) : List Int := (rngI n).filter fun q => cnB ps p q
noncomputable def cmF (n : Nat) (ps : List (Int × Int)) (k : Nat) : List (List Int) := ((rngI k).filter fun p => lB ps p).map (pcF n ps)
theorem rngI_succ (k : Nat) : rngI (k + 1) = rngI k ++ [(k : Int)] := by unfold rngI; rw [List.range_succ, List.map_append]; rfl
theorem cm_no {k : Nat} (h : ¬ isL ps (k : Int)) : cmF n ps (k + 1) = cmF n ps k := by
  unfold cmF
  rw [rngI_succ, List.filter_append]
  have : lB ps (k : Int) = false := by
    cases e : lB ps (k : Int) with
    | false => rfl
    | true => exact absurd (lB_iff.mp e) h
  simp [this]
theorem cm_yes {k : Nat} (h : isL ps (k : Int)) : cmF n ps (k + 1) = cmF n ps k ++ [pcF n ps (k : Int)] := by
  unfold cmF
  rw [rngI_succ, List.filter_append]
  simp [lB_iff.mpr h]
theorem pc_mem {p x : Int} : x ∈ pcF n ps p ↔ x ∈ rngI n ∧ Cn ps p x := by
  unfold pcF
  rw [List.mem_filter, cnB_iff]
theorem cm_len (k : Nat) : (cmF n ps k).length ≤ k := by
  unfold cmF
  rw [List.length_map]
  have := List.length_filter_le (fun p => lB ps p) (rngI k)
  rw [rngI_len] at this
  exact this
theorem rngI_up (n : Nat) : (rngI n).Pairwise (· ≤ ·) := by
  unfold rngI
  rw [List.pairwise_map]
  exact List.pairwise_lt_range.imp fun h => by omega
theorem pc_is {p : Int} {ks ns : List Int} (nd : ks.Nodup) (hm : ∀ x, x ∈ ks ↔ x ∈ rngI n ∧ Cn ps p x) (hp : ns.Perm ks) (ho : ns.Pairwise (· ≤ ·)) : ns = pcF n ps p := by
  have np : (pcF n ps p).Nodup := (rngI_nd n).filter _
  have h1 : ns.Perm (pcF n ps p) := hp.trans ((List.perm_ext_iff_of_nodup nd np).mpr fun x => by rw [hm, pc_mem])
  exact h1.eq_of_pairwise (le := fun a b : Int => decide (a ≤ b)) (fun a b _ _ h1 h2 => by have h1 := of_decide_eq_true h1; have h2 := of_decide_eq_true h2; omega) (ho.imp fun h => decide_eq_true h) (((rngI_up n).filter _).imp fun h => decide_eq_true h)
end
def sm (l : List Int) (f : Int → Int) : Int := (l.map f).sum
theorem sm_nil (f : Int → Int) : sm [] f = 0 := rfl
theorem sm_cons (x : Int) (l : List Int) (f : Int → Int) : sm (x :: l) f = f x + sm l f := by unfold sm; rw [List.map_cons, List.sum_cons]
theorem sm_app (l m : List Int) (f : Int → Int) : sm (l ++ m) f = sm l f + sm m f := by unfold sm; rw [List.map_append, List.sum_append]
theorem sm_congr {l : List Int} {f g : Int → Int} (h : ∀ x ∈ l, f x = g x) : sm l f = sm l g := by unfold sm; rw [List.map_congr_left h]
theorem sm_add (l : List Int) (f g : Int → Int) : sm l (fun x => f x + g x) = sm l f + sm l g := by
  induction l with
  | nil => rfl
  | cons x l ih => rw [sm_cons, sm_cons, sm_cons, ih]; omega
theorem sm_zero (l : List Int) : sm l (fun _ => 0) = 0 := by
  induction l with
  | nil => rfl
  | cons x l ih => rw [sm_cons, ih]; rfl
theorem sm_perm {l m : List Int} (h : l.Perm m) (f : Int → Int) : sm l f = sm m f := by
  induction h with
  | nil => rfl
  | cons x _ ih => rw [sm_cons, sm_cons, ih]
  | swap x y l => rw [sm_cons, sm_cons, sm_cons, sm_cons]; omega
  | trans _ _ h1 h2 => rw [h1, h2]
theorem sm_if {l : List Int} (nd : l.Nodup) {a : Int} (ha : a ∈ l) (c : Int → Int) : sm l (fun x => if a = x then c x else 0) = c a := by
  induction l with
  | nil => cases ha
  | cons x l ih =>
    have nd := List.nodup_cons.mp nd
    rw [sm_cons]
    by_cases e : a = x
    · subst e
      have : sm l (fun x => if a = x then c x else 0) = sm l (fun _ => 0) := sm_congr fun y hy => if_neg fun z => nd.1 (by rw [z]; exact hy)
      rw [if_pos rfl, this, sm_zero]; omega
    · rw [if_neg e, ih nd.2 ((List.mem_cons.mp ha).resolve_left e)]; omega
def wt (nx : Int → List Int) : Nat → Int → Int
  | 0, _ => 0
  | k + 1, p => 1 - sm (nx p) (wt nx k)
theorem wt_stable {nx : Int → List Int} {g : Int → Nat} (hg : ∀ p a, a ∈ nx p → g a < g p) : ∀ k p, g p < k → wt nx (k + 1) p = wt nx k p
  | 0, p, h => by omega
  | k + 1, p, h => by
    show 1 - sm (nx p) (wt nx (k + 1)) = 1 - sm (nx p) (wt nx k)
    rw [sm_congr fun a ha => wt_stable hg k a (by have := hg p a ha; omega)]
theorem wt_eq {nx : Int → List Int} {g : Int → Nat} (hg : ∀ p a, a ∈ nx p → g a < g p) {K : Nat} {p : Int} (h : g p < K) : wt nx K p = 1 - sm (nx p) (wt nx K) := by
  rw [← wt_stable hg K p h]; rfl
theorem po_cons (q : Int × Int) (ps : List (Int × Int)) (p : Int) : po (q :: ps) p = if q.1 = p then q.2 :: po ps p else po ps p := by
  unfold po
  rw [List.filter_cons]
  by_cases h : q.1 = p <;> simp [h]
theorem pu_cons (q : Int × Int) (ps : List (Int × Int)) (p : Int) : pu (q :: ps) p = if q.2 = p then q.1 :: pu ps p else pu ps p := by
  unfold pu
  rw [List.filter_cons]
  by_cases h : q.2 = p <;> simp [h]
theorem mem_po {ps : List (Int × Int)} {p x : Int} : x ∈ po ps p ↔ (p, x) ∈ ps := by
  unfold po
  rw [List.mem_map]
  constructor
  · rintro ⟨q, hq, rfl⟩
    obtain ⟨h1, h2⟩ := List.mem_filter.mp hq
    have h2 := of_decide_eq_true h2
    rw [← h2]; exact h1
  · exact fun h => ⟨(p, x), List.mem_filter.mpr ⟨h, decide_eq_true rfl⟩, rfl⟩
theorem mem_pu {ps : List (Int × Int)} {p x : Int} : x ∈ pu ps p ↔ (x, p) ∈ ps := by
  unfold pu
  rw [List.mem_map]
  constructor
  · rintro ⟨q, hq, rfl⟩
    obtain ⟨h1, h2⟩ := List.mem_filter.mp hq
    have h2 := of_decide_eq_true h2
    rw [← h2]; exact h1
  · exact fun h => ⟨(x, p), List.mem_filter.mpr ⟨h, decide_eq_true rfl⟩, rfl⟩
def sp2 (ps : List (Int × Int)) (u h : Int → Int) : Int := (ps.map fun q => u q.1 * h q.2).sum
theorem pair_po {n : Nat} {ps : List (Int × Int)} (hin : InRg n ps) (u h : Int → Int) : sm (rngI n) (fun p => u p * sm (po ps p) h) = sp2 ps u h := by
  induction ps with
  | nil =>
    have : sm (rngI n) (fun p => u p * sm (po [] p) h) = sm (rngI n) (fun _ => 0) := sm_congr fun p _ => by
      show u p * 0 = 0
      rw [Int.mul_zero]
    rw [this, sm_zero]; rfl
  | cons q ps ih =>
    have ih := ih fun r hr => hin r (List.mem_cons_of_mem _ hr)
    have e : sm (rngI n) (fun p => u p * sm (po (q :: ps) p) h) = sm (rngI n) (fun p => (if q.1 = p then u p * h q.2 else 0) + u p * sm (po ps p) h) := sm_congr fun p _ => by
      rw [po_cons]
      by_cases z : q.1 = p
      · rw [if_pos z, if_pos z, sm_cons, Int.mul_add]
      · rw [if_neg z, if_neg z, Int.zero_add]
    rw [e, sm_add, sm_if (rngI_nd n) (hin q List.mem_cons_self).1 (fun p => u p * h q.2), ih]
    unfold sp2
    rw [List.map_cons, List.sum_cons]
theorem pair_pu {n : Nat} {ps : List (Int × Int)} (hin : InRg n ps) (u h : Int → Int) : sm (rngI n) (fun p => h p * sm (pu ps p) u) = sp2 ps u h := by
  induction ps with
  | nil =>
    have : sm (rngI n) (fun p => h p * sm (pu [] p) u) = sm (rngI n) (fun _ => 0) := sm_congr fun p _ => by
      show h p * 0 = 0
      rw [Int.mul_zero]
    rw [this, sm_zero]; rfl
  | cons q ps ih =>
    have ih := ih fun r hr => hin r (List.mem_cons_of_mem _ hr)
    have e : sm (rngI n) (fun p => h p * sm (pu (q :: ps) p) u) = sm (rngI n) (fun p => (if q.2 = p then h p * u q.1 else 0) + h p * sm (pu ps p) u) := sm_congr fun p _ => by
      rw [pu_cons]
      by_cases z : q.2 = p
      · rw [if_pos z, if_pos z, sm_cons, Int.mul_add]
      · rw [if_neg z, if_neg z, Int.zero_add]
    rw [e, sm_add, sm_if (rngI_nd n) (hin q List.mem_cons_self).2 (fun p => h p * u q.1), ih]
    unfold sp2
    rw [List.map_cons, List.sum_cons, Int.mul_comm (h q.2)]
section
variable {n : Nat} {ps : List (Int × Int)}
theorem pu_nd (nd : ps.Nodup) (p : Int) : (pu ps p).Nodup := by
  unfold pu
  rw [List.nodup_iff_pairwise_ne, List.pairwise_map]
  refine (nd.filter _).imp_of_mem fun {a b} ha hb h z => h ?_
  have e1 := of_decide_eq_true (List.mem_filter.mp ha).2
  have e2 := of_decide_eq_true (List.mem_filter.mp hb).2
  exact Prod.ext z (e1.trans e2.symm)
theorem po_nd (nd : ps.Nodup) (p : Int) : (po ps p).Nodup := by
  unfold po
  rw [List.nodup_iff_pairwise_ne, List.pairwise_map]
  refine (nd.filter _).imp_of_mem fun {a b} ha hb h z => h ?_
  have e1 := of_decide_eq_true (List.mem_filter.mp ha).2
  have e2 := of_decide_eq_true (List.mem_filter.mp hb).2
  exact Prod.ext (e1.trans e2.symm) z
def gU (ps : List (Int × Int)) (p : Int) : Nat := (pu ps p).length
def gO (ps : List (Int × Int)) (p : Int) : Nat := (po ps p).length
theorem gU_lt (o : Ordr ps) (nd : ps.Nodup) (p a : Int) (h : a ∈ pu ps p) : gU ps a < gU ps p := by
  have h1 := mem_pu.mp h
  have := sub_len (l := a :: pu ps a) (m := pu ps p) (List.nodup_cons.mpr ⟨fun z => o.irr a (mem_pu.mp z), pu_nd nd a⟩) fun x hx => by
    rcases List.mem_cons.mp hx with rfl | hx
    · exact h
    · exact mem_pu.mpr (o.trs _ _ _ (mem_pu.mp hx) h1)
  exact this
theorem gO_lt (o : Ordr ps) (nd : ps.Nodup) (p a : Int) (h : a ∈ po ps p) : gO ps a < gO ps p := by
  have h1 := mem_po.mp h
  have := sub_len (l := a :: po ps a) (m := po ps p) (List.nodup_cons.mpr ⟨fun z => o.irr a (mem_po.mp z), po_nd nd a⟩) fun x hx => by
    rcases List.mem_cons.mp hx with rfl | hx
    · exact h
    · exact mem_po.mpr (o.trs _ _ _ h1 (mem_po.mp hx))
  exact this
theorem gU_le (hin : InRg n ps) (o : Ordr ps) (nd : ps.Nodup) {p : Int} (hp : p ∈ rngI n) : gU ps p < n := by
  have := sub_len (l := p :: pu ps p) (m := rngI n) (List.nodup_cons.mpr ⟨fun z => o.irr p (mem_pu.mp z), pu_nd nd p⟩) fun x hx => by
    rcases List.mem_cons.mp hx with rfl | hx
    · exact hp
    · exact (hin _ (mem_pu.mp hx)).1
  rw [rngI_len, List.length_cons] at this
  exact this
theorem gO_le (hin : InRg n ps) (o : Ordr ps) (nd : ps.Nodup) {p : Int} (hp : p ∈ rngI n) : gO ps p < n := by
  have := sub_len (l := p :: po ps p) (m := rngI n) (List.nodup_cons.mpr ⟨fun z => o.irr p (mem_po.mp z), po_nd nd p⟩) fun x hx => by
    rcases List.mem_cons.mp hx with rfl | hx
    · exact hp
    · exact (hin _ (mem_po.mp hx)).2
  rw [rngI_len, List.length_cons] at this
  exact this
def wU (n : Nat) (ps : List (Int × Int)) (p : Int) : Int := wt (pu ps) n p
def wO (n : Nat) (ps : List (Int × Int)) (p : Int) : Int := wt (po ps) n p
theorem wU_eq (hin : InRg n ps) (o : Ordr ps) (nd : ps.Nodup) {p : Int} (hp : p ∈ rngI n) : wU n ps p = 1 - sm (pu ps p) (wU n ps) := wt_eq (gU_lt o nd) (gU_le hin o nd hp)
theorem wO_eq (hin : InRg n ps) (o : Ordr ps) (nd : ps.Nodup) {p : Int} (hp : p ∈ rngI n) : wO n ps p = 1 - sm (po ps p) (wO n ps) := wt_eq (gO_lt o nd) (gO_le hin o nd hp)
def ecF (n : Nat) (ps : List (Int × Int)) : Int := sm (rngI n) (wU n ps)
theorem ec_both (hin : InRg n ps) (o : Ordr ps) (nd : ps.Nodup) : ecF n ps = sm (rngI n) (wO n ps) := by
  have h1 : ecF n ps = sm (rngI n) (fun p => wU n ps p * wO n ps p) + sp2 ps (wU n ps) (wO n ps) := by
    rw [← pair_po hin, ← sm_add]
    refine sm_congr fun p hp => ?_
    have := wO_eq hin o nd hp
    rw [← Int.mul_add, show wO n ps p + sm (po ps p) (wO n ps) = 1 by omega, Int.mul_one]
  have h2 : sm (rngI n) (wO n ps) = sm (rngI n) (fun p => wU n ps p * wO n ps p) + sp2 ps (wU n ps) (wO n ps) := by
    rw [← pair_pu hin, ← sm_add]
    refine sm_congr fun p hp => ?_
    have := wU_eq hin o nd hp
    rw [Int.mul_comm (wU n ps p), ← Int.mul_add, show wU n ps p + sm (pu ps p) (wU n ps) = 1 by omega, Int.mul_one]
  rw [h1, h2]
end
theorem depth_ints : ∀ xs : List Int, PyData.depthAll (xs.map PyData.int) = 0
  | [] => rfl
  | x :: xs => by
    show max (PyData.depth (.int x)) (PyData.depthAll (xs.map PyData.int)) = 0
    rw [depth_ints xs]; rfl
def Plaw (ds : List PyData) (RS : Dt → Prop) : Prop := ∃ ns : List Int, ds = [scrD ns] ∧ ns.length ≤ 63 ∧ RS (.d (.bool true))
theorem eqv_pairs : ∀ ps qs : List (Int × Int), PyData.eqvAll (ps.map pD) (qs.map pD) = decide (ps = qs)
  | [], [] => rfl
  | [], _ :: _ => rfl
  | _ :: _, [] => rfl
  | x :: xs, y :: ys => by
    show (PyData.eqv (pD x) (pD y) && PyData.eqvAll (xs.map pD) (ys.map pD)) = _
    rw [eqv_pD, eqv_pairs xs ys]
    by_cases h1 : x = y <;> by_cases h2 : xs = ys <;> simp [h1, h2]
theorem IsSp.inrg {n : Nat} {ps : List (Int × Int)} (h : IsSp n ps) : InRg n ps := fun q hq => by
  have := h.inR q hq
  obtain ⟨a, b, c, d⟩ := this
  exact ⟨rngI_mem.mpr ⟨a, b⟩, rngI_mem.mpr ⟨c, d⟩⟩
structure SpOk (n : Nat) (ps : List (Int × Int)) : Prop where
  n1 : 1 ≤ n
  n16 : n ≤ 16
  len : ps.length ≤ 400
  inr : InRg n ps
  ord : Ordr ps
  nd : ps.Nodup
theorem IsSp.ok {n : Nat} {ps : List (Int × Int)} (h : IsSp n ps) (h1 : 1 ≤ n) (h2 : n ≤ 16) : SpOk n ps := ⟨h1, h2, Nat.le_trans h.len (Nat.le_trans (Nat.mul_le_mul h2 h2) (by decide)), h.inrg, h.ord, h.nd⟩
def Ppc (ds : List PyData) (RS : Dt → Prop) : Prop := ∃ (n : Nat) (ps : List (Int × Int)) (p : Int), ds = [spD n ps, .int p] ∧ SpOk n ps ∧ p ∈ rngI n ∧ RS (.o ((pcF n ps p).map PyData.int))
def Ppcs (ds : List PyData) (RS : Dt → Prop) : Prop := ∃ (n : Nat) (ps : List (Int × Int)), ds = [spD n ps] ∧ SpOk n ps ∧ RS (.oo ((cmF n ps n).map fun l => l.map PyData.int))
def Pfb (ds : List PyData) (RS : Dt → Prop) : Prop := ∃ (n : Nat) (ps : List (Int × Int)), ds = [spD n ps] ∧ SpOk n ps ∧ ∀ ns : List Int, ns.Perm (rngI n) → ns.Pairwise (fun a b => gU ps a ≤ gU ps b) → RS (.o (ns.map PyData.int))
def Pec (ds : List PyData) (RS : Dt → Prop) : Prop := ∃ (n : Nat) (ps : List (Int × Int)), ds = [spD n ps] ∧ SpOk n ps ∧ RS (.d (.int (ecF n ps)))
def trK (ks : List Int) : List (Key × PyData) := ks.map fun k => ((.inl k : Key), PyData.bool true)
theorem trK_find (ks : List Int) (k : Int) : ((trK ks).any fun kv => decide (kv.1 = .inl k)) = decide (k ∈ ks) := by
  induction ks with
  | nil => rfl
  | cons a ks ih =>
    show (decide ((Sum.inl a : Key) = .inl k) || ((trK ks).any fun kv => decide (kv.1 = .inl k))) = _
    rw [ih, Bool.eq_iff_iff]
    simp only [Bool.or_eq_true, decide_eq_true_eq, List.mem_cons, Sum.inl.injEq]
    exact or_congr_left eq_comm
theorem trK_get (ks : List Int) (k : Int) : (getKD (trK ks) (.inl k)).isSome = decide (k ∈ ks) := by
  rw [← trK_find]
  unfold getKD
  rw [Option.isSome_map, Bool.eq_iff_iff, List.find?_isSome, List.any_eq_true]
theorem trK_put {ks : List Int} {k : Int} (h : k ∉ ks) : putKD (trK ks) (.inl k) (.bool true) = trK (ks ++ [k]) := by
  unfold putKD
  rw [trK_find, decide_eq_false h, if_neg Bool.false_ne_true]
  unfold trK
  rw [List.map_append]
  rfl
theorem trK_keep {ks : List Int} {k : Int} (h : k ∈ ks) : putKD (trK ks) (.inl k) (.bool true) = trK ks := by
  unfold putKD
  rw [trK_find, decide_eq_true h, if_pos rfl]
  unfold trK
  rw [List.map_map]
  refine List.map_congr_left fun a _ => ?_
  show (if (Sum.inl a : Key) = .inl k then ((Sum.inl a : Key), PyData.bool true) else _) = _
  split <;> rfl
theorem trK_keys (ks : List Int) : (trK ks).map (·.1) = ks.map Sum.inl := by unfold trK; rw [List.map_map]; rfl
theorem trK_len (ks : List Int) : (trK ks).length = ks.length := List.length_map _
section
variable {n : Nat} {ps : List (Int × Int)} {p : Int}
structure Rc (n : Nat) (ps : List (Int × Int)) (p : Int) (ks ws : List Int) : Prop where
  nd : ks.Nodup
  pin : p ∈ ks
  cn : ∀ x ∈ ks, x ∈ rngI n ∧ Cn ps p x
  wk : ∀ x ∈ ws, x ∈ ks
theorem Rc.len {ks ws : List Int} (h : Rc n ps p ks ws) : ks.length ≤ n := by
  have := sub_len h.nd fun x hx => (h.cn x hx).1
  rwa [rngI_len] at this
theorem Rc.add {ks ws : List Int} {a x : Int} (hin : InRg n ps) (h : Rc n ps p ks ws) (ha : a ∈ ks) (e : adj ps a x) (hx : x ∉ ks) : Rc n ps p (ks ++ [x]) (ws ++ [x]) := by
  refine ⟨?_, List.mem_append_left _ h.pin, fun z hz => ?_, fun z hz => ?_⟩
  · rw [List.nodup_append]
    exact ⟨h.nd, by simp, fun y hy z hz w => hx (by rw [List.mem_singleton.mp hz] at w; rw [← w]; exact hy)⟩
  · rcases List.mem_append.mp hz with hz | hz
    · exact h.cn z hz
    · rw [List.mem_singleton.mp hz]
      exact ⟨e.inr hin, (h.cn a ha).2.trans (.one e)⟩
  · rcases List.mem_append.mp hz with hz | hz
    · exact List.mem_append_left _ (h.wk z hz)
    · exact List.mem_append_right _ hz
theorem Rc.all {ks : List Int} (hp : p ∈ rngI n) (hin : InRg n ps) (h : Rc n ps p ks []) (hc : ∀ x ∈ ks, ∀ y, adj ps x y → y ∈ ks) : ∀ x, x ∈ ks ↔ x ∈ rngI n ∧ Cn ps p x := fun x => by
  refine ⟨h.cn x, fun z => ?_⟩
  have go : ∀ {a b : Int}, Cn ps a b → a ∈ ks → b ∈ ks := fun {a b} c => by
    induction c with
    | rfl a => exact fun h => h
    | step e _ ih => exact fun h => ih (hc _ h _ e)
  exact go z.2 h.pin
theorem adj_near {x : Int} : x ∈ pu ps p ++ po ps p ↔ adj ps p x := by
  rw [List.mem_append, mem_pu, mem_po]
  exact Or.comm
theorem pu_len (p : Int) : (pu ps p).length ≤ ps.length := by unfold pu; rw [List.length_map]; exact List.length_filter_le _ _
theorem po_len (p : Int) : (po ps p).length ≤ ps.length := by unfold po; rw [List.length_map]; exact List.length_filter_le _ _
end
section
variable {n : Nat} {ps : List (Int × Int)}
structure Sn (n : Nat) (ps : List (Int × Int)) (k : Nat) (ks : List Int) : Prop where
  nd : ks.Nodup
  mem : ∀ x, x ∈ ks ↔ x ∈ rngI n ∧ ∃ q : Int, 0 ≤ q ∧ q < (k : Int) ∧ Cn ps q x
theorem Sn.zero : Sn n ps 0 [] := ⟨.nil, fun x => ⟨fun h => (by cases h), fun ⟨_, q, h1, h2, _⟩ => (by omega)⟩⟩
theorem Sn.not {k : Nat} {ks : List Int} (h : Sn n ps k ks) (hk : (k : Int) ∈ ks) : ¬ isL ps (k : Int) := fun z => by
  obtain ⟨_, q, h1, h2, h3⟩ := (h.mem _).mp hk
  have := z q h3.symm
  omega
theorem Sn.isL {k : Nat} {ks : List Int} (hin : InRg n ps) (h : Sn n ps k ks) (hkn : (k : Int) ∈ rngI n) (hk : (k : Int) ∉ ks) : isL ps (k : Int) := fun q c => by
  apply Decidable.byContradiction
  intro z
  have hq := rngI_mem.mp (c.inr hin hkn)
  exact hk ((h.mem _).mpr ⟨hkn, q, hq.1, by omega, c.symm⟩)
theorem Sn.old {k : Nat} {ks : List Int} (h : Sn n ps k ks) (hk : (k : Int) ∈ ks) : Sn n ps (k + 1) ks := by
  refine ⟨h.nd, fun x => ?_⟩
  rw [h.mem]
  obtain ⟨_, q0, a1, a2, a3⟩ := (h.mem _).mp hk
  constructor
  · rintro ⟨h1, q, h2, h3, h4⟩
    exact ⟨h1, q, h2, by omega, h4⟩
  · rintro ⟨h1, q, h2, h3, h4⟩
    by_cases e : q = (k : Int)
    · subst e
      exact ⟨h1, q0, a1, a2, a3.trans h4⟩
    · exact ⟨h1, q, h2, by omega, h4⟩
theorem Sn.new {k : Nat} {ks ks' : List Int} (h : Sn n ps k ks) (nd : ks'.Nodup) (hm : ∀ x, x ∈ ks' ↔ x ∈ ks ∨ x ∈ pcF n ps (k : Int)) : Sn n ps (k + 1) ks' := by
  refine ⟨nd, fun x => ?_⟩
  rw [hm, h.mem, pc_mem]
  constructor
  · rintro (⟨h1, q, h2, h3, h4⟩ | ⟨h1, h2⟩)
    · exact ⟨h1, q, h2, by omega, h4⟩
    · exact ⟨h1, k, by omega, by omega, h2⟩
  · rintro ⟨h1, q, h2, h3, h4⟩
    by_cases e : q = (k : Int)
    · subst e; exact .inr ⟨h1, h4⟩
    · exact .inl ⟨h1, q, h2, by omega, h4⟩
end
section
variable {n : Nat} {α : Type} {f : Int → α} {x : Int}
end
theorem sh_lst (xs : List Int) : shal (.list (xs.map PyData.int)) := by
  show PyData.depthAll (xs.map PyData.int) + 1 ≤ 9
  rw [depth_ints]; decide
section
variable {n : Nat} {ps : List (Int × Int)}
end
def ptK (n : Nat) (ps : List (Int × Int)) (ks : List Int) : List (Key × PyData) := ks.map fun k => ((.inl k : Key), PyData.int (wU n ps k))
section
variable {n : Nat} {ps : List (Int × Int)}
theorem ptK_vals (ks : List Int) : (ptK n ps ks).map (·.2) = (ks.map (wU n ps)).map PyData.int := by unfold ptK; rw [List.map_map, List.map_map]; rfl
theorem ptK_len (ks : List Int) : (ptK n ps ks).length = ks.length := List.length_map _
theorem ptK_get {ks : List Int} {k : Int} (h : k ∈ ks) : getKD (ptK n ps ks) (.inl k) = some (.int (wU n ps k)) := by
  induction ks with
  | nil => cases h
  | cons a ks ih =>
    unfold getKD ptK
    rw [List.map_cons]
    by_cases e : a = k
    · subst e
      rw [List.find?_cons_of_pos (by simp)]; rfl
    · rw [List.find?_cons_of_neg (by simpa using e)]
      exact ih ((List.mem_cons.mp h).resolve_left fun z => e z.symm)
theorem ptK_put {ks : List Int} {k : Int} (h : k ∉ ks) : putKD (ptK n ps ks) (.inl k) (.int (wU n ps k)) = ptK n ps (ks ++ [k]) := by
  unfold putKD
  have : ((ptK n ps ks).any fun kv => decide (kv.1 = .inl k)) = false := by
    rw [List.any_eq_false]
    intro x hx z
    unfold ptK at hx
    obtain ⟨a, ha, rfl⟩ := List.mem_map.mp hx
    have z : (Sum.inl a : Key) = .inl k := of_decide_eq_true z
    injection z with z
    exact h (by rw [← z]; exact ha)
  rw [this, if_neg Bool.false_ne_true]
  unfold ptK
  rw [List.map_append]
  rfl
theorem below_at {ns : List Int} {j : Nat} {p a : Int} (sp : SpOk n ps) (h1 : ns.Perm (rngI n)) (h2 : ns.Pairwise (fun a b => gU ps a ≤ gU ps b)) (hp : ns[j]? = some p) (ha : a ∈ pu ps p) : a ∈ ns.take j := by
  have hl := gU_lt sp.ord sp.nd p a ha
  have hn : a ∈ ns := h1.mem_iff.mpr (sp.inr _ (mem_pu.mp ha)).1
  obtain ⟨i, hi, e⟩ := List.getElem_of_mem hn
  obtain ⟨hj, ej⟩ := List.getElem?_eq_some_iff.mp hp
  have hij : i < j := by
    apply Decidable.byContradiction
    intro z
    rcases Nat.lt_or_ge j i with w | w
    · have := List.pairwise_iff_getElem.mp h2 j i hj hi w
      rw [e, ej] at this
      omega
    · have : i = j := by omega
      subst this
      rw [e] at ej
      rw [ej] at hl
      omega
  rw [List.mem_take_iff_getElem]
  exact ⟨i, by omega, e⟩
end
def Goal (ps : List (Int × Int)) (p g : Int) : Prop := ((p, g) ∈ ps ∧ ∀ a, (p, a) ∈ ps → leqP ps g a) ∨ ((g, p) ∈ ps ∧ ∀ a, (a, p) ∈ ps → leqP ps a g)
theorem goal_spec {ps : List (Int × Int)} {p g : Int} (h : goalF ps p = some g) : Goal ps p g := by
  unfold goalF at h
  cases e : lowF ps (po ps p) with
  | some x =>
    rw [e] at h
    have h : x = g := Option.some.inj h
    subst h
    refine .inl ⟨mem_po.mp (find_in e), fun a ha => ?_⟩
    have := List.find?_some e
    exact leqB_iff.mp (List.all_eq_true.mp this a (mem_po.mpr ha))
  | none =>
    rw [e] at h
    have h : highF ps (pu ps p) = some g := h
    refine .inr ⟨mem_pu.mp (find_in h), fun a ha => ?_⟩
    have := List.find?_some h
    exact leqB_iff.mp (List.all_eq_true.mp this a (mem_pu.mpr ha))
theorem gt_mem {xs : List Int} {i : Int} (h0 : 0 ≤ i) (h1 : i < xs.length) : gt xs i ∈ xs := by
  unfold gt
  rw [List.getD_eq_getElem?_getD, List.getElem?_eq_getElem (by omega : i.toNat < xs.length)]
  exact List.getElem_mem _
def Pdrawn (ds : List PyData) (RS : Dt → Prop) : Prop := ∃ (n : Nat) (ps : List (Int × Int)) (ns : List Int) (k : Nat), ds = [spD n ps, scrD ns, .int (k : Int)] ∧ n ≤ 100 ∧ InRs n ps ∧ ∀ (row : List Int) (n' : Nat) (ps' : List (Int × Int)), Walk n ps row n' ps' → foldF n' ps' = [] → RS (.o (row.map PyData.int))
theorem cut_take (xs : List Int) (j : Int) (h0 : 0 ≤ j) : cutD (xs.map PyData.int) none (some j) = (xs.take j.toNat).map PyData.int := by
  obtain ⟨k, rfl⟩ := Int.eq_ofNat_of_zero_le h0
  unfold cutD
  rw [HT.sIx_none, HT.sIx_nat, List.drop_zero, Nat.sub_zero, Int.toNat_natCast, List.length_map, ← List.map_take]
  congr 1
  rcases Nat.le_total k xs.length with h | h
  · rw [Nat.min_eq_left h]
  · rw [Nat.min_eq_right h, List.take_length, List.take_of_length_le h]
theorem Walk.take {n : Nat} {ps : List (Int × Int)} {row : List Int} {n' : Nat} {ps' : List (Int × Int)} (w : Walk n ps row n' ps') : ∀ k : Nat, ∃ n2 ps2, Walk n ps (row.take k) n2 ps2 := by
  induction w with
  | nil n ps => exact fun k => ⟨n, ps, by rw [List.take_nil]; exact .nil n ps⟩
  | @cons n ps p row n' ps' h0 h1 h2 w ih =>
    intro k
    cases k with
    | zero => exact ⟨_, _, .nil _ _⟩
    | succ k =>
      obtain ⟨n2, ps2, w2⟩ := ih k
      exact ⟨n2, ps2, .cons h0 h1 h2 w2⟩
def upI (p i : Int) : Int := if i < p then i else i + 1
theorem eqv_ints : ∀ xs ys : List Int, PyData.eqvAll (xs.map PyData.int) (ys.map PyData.int) = decide (xs = ys)
  | [], [] => rfl
  | [], _ :: _ => rfl
  | _ :: _, [] => rfl
  | x :: xs, y :: ys => by
    show (PyData.eqv (.int x) (.int y) && PyData.eqvAll (xs.map PyData.int) (ys.map PyData.int)) = _
    rw [eqv_int, eqv_ints xs ys]
    by_cases h1 : x = y <;> by_cases h2 : xs = ys <;> simp [h1, h2]
theorem ok_lst (xs : List Int) : okD (.list (xs.map PyData.int)) := layAll_ints xs
theorem fold_len (n : Nat) (ps : List (Int × Int)) : (foldF n ps).length ≤ n := by
  unfold foldF
  refine Nat.le_trans (List.length_filter_le _ _) ?_
  simp
theorem cu_up (p i : Int) : cu p (upI p i) = i := by
  unfold cu upI
  by_cases h : i < p
  · rw [if_pos h, if_neg (by omega)]
  · rw [if_neg h, if_pos (by omega)]; omega
theorem up_cu {p x : Int} (h : x ≠ p) : upI p (cu p x) = x := by
  unfold cu upI
  by_cases z : x > p
  · rw [if_pos z, if_neg (by omega)]; omega
  · rw [if_neg z, if_pos (by omega)]
theorem up_ne (p i : Int) : upI p i ≠ p := by
  unfold upI
  split <;> omega
theorem up_in {m : Nat} {p i : Int} (hi : i ∈ rngI m) : upI p i ∈ rngI (m + 1) := by
  have h := rngI_mem.mp hi
  refine rngI_mem.mpr ?_
  unfold upI
  split <;> omega
theorem cu_inr {m : Nat} {p x : Int} (hp : p ∈ rngI (m + 1)) (hx : x ∈ rngI (m + 1)) (hne : x ≠ p) : cu p x ∈ rngI m := by
  have h := rngI_mem.mp hx
  have h' := rngI_mem.mp hp
  refine rngI_mem.mpr ?_
  unfold cu
  split <;> omega
section
variable {m n : Nat} {ps qs : List (Int × Int)} {p g : Int}
theorem mem_wo {i j : Int} : (i, j) ∈ woF ps p ↔ (upI p i, upI p j) ∈ ps := by
  unfold woF
  rw [List.mem_map]
  constructor
  · rintro ⟨q, hq, e⟩
    obtain ⟨h1, h2⟩ := List.mem_filter.mp hq
    rw [Bool.and_eq_true, decide_eq_true_eq, decide_eq_true_eq] at h2
    have e1 : cu p q.1 = i := congrArg Prod.fst e
    have e2 : cu p q.2 = j := congrArg Prod.snd e
    rw [← e1, ← e2, up_cu (fun z => h2.1 z.symm), up_cu (fun z => h2.2 z.symm)]
    exact h1
  · intro h
    refine ⟨_, List.mem_filter.mpr ⟨h, ?_⟩, ?_⟩
    · rw [Bool.and_eq_true, decide_eq_true_eq, decide_eq_true_eq]
      exact ⟨fun z => up_ne p i z.symm, fun z => up_ne p j z.symm⟩
    · show (cu p (upI p i), cu p (upI p j)) = (i, j)
      rw [cu_up, cu_up]
theorem wo_ord (o : Ordr ps) : Ordr (woF ps p) := ⟨fun x h => o.irr _ (mem_wo.mp h), fun x y z h1 h2 => mem_wo.mpr (o.trs _ _ _ (mem_wo.mp h1) (mem_wo.mp h2))⟩
theorem wo_rg (hin : InRg (m + 1) ps) (hp : p ∈ rngI (m + 1)) : InRg m (woF ps p) := fun q hq => by
  have h := hin _ (mem_wo.mp (show (q.1, q.2) ∈ woF ps p from hq))
  have h1 := cu_inr hp h.1 (up_ne p q.1)
  have h2 := cu_inr hp h.2 (up_ne p q.2)
  rw [cu_up] at h1 h2
  exact ⟨h1, h2⟩
theorem wo_nd (nd : ps.Nodup) : (woF ps p).Nodup := by
  unfold woF
  rw [List.nodup_iff_pairwise_ne, List.pairwise_map]
  refine (nd.filter _).imp_of_mem fun {a b} ha hb h z => h ?_
  have h1 := (List.mem_filter.mp ha).2
  have h2 := (List.mem_filter.mp hb).2
  rw [Bool.and_eq_true, decide_eq_true_eq, decide_eq_true_eq] at h1 h2
  have e1 : cu p a.1 = cu p b.1 := congrArg Prod.fst z
  have e2 : cu p a.2 = cu p b.2 := congrArg Prod.snd z
  refine Prod.ext ?_ ?_
  · rw [← up_cu (fun z => h1.1 z.symm), e1, up_cu (fun z => h2.1 z.symm)]
  · rw [← up_cu (fun z => h1.2 z.symm), e2, up_cu (fun z => h2.2 z.symm)]
theorem wo_po (i : Int) : po (woF ps p) i = ((po ps (upI p i)).filter fun x => decide (x ≠ p)).map (cu p) := by
  unfold po woF
  rw [List.filter_map, List.map_map, List.filter_filter, List.filter_map, List.map_map, List.filter_filter]
  have : (fun q : Int × Int => ((fun q : Int × Int => decide (q.1 = i)) ∘ cu2 p) q && (decide (p ≠ q.1) && decide (p ≠ q.2))) = fun q => ((fun x => decide (x ≠ p)) ∘ fun x : Int × Int => x.2) q && decide (q.1 = upI p i) := by
    funext q
    rw [Bool.eq_iff_iff]
    simp only [Function.comp, Bool.and_eq_true, decide_eq_true_eq, cu2]
    constructor
    · rintro ⟨h1, h2, h3⟩
      exact ⟨fun z => h3 z.symm, by rw [← of_decide_eq_true h1, up_cu (fun z => h2 z.symm)]⟩
    · rintro ⟨h1, h2⟩
      exact ⟨decide_eq_true (show cu p q.1 = i by rw [h2, cu_up]), by rw [h2]; exact fun z => up_ne p i z.symm, fun z => h1 z.symm⟩
  rw [this]
  rfl
theorem wo_pu (i : Int) : pu (woF ps p) i = ((pu ps (upI p i)).filter fun x => decide (x ≠ p)).map (cu p) := by
  unfold pu woF
  rw [List.filter_map, List.map_map, List.filter_filter, List.filter_map, List.map_map, List.filter_filter]
  have : (fun q : Int × Int => ((fun q : Int × Int => decide (q.2 = i)) ∘ cu2 p) q && (decide (p ≠ q.1) && decide (p ≠ q.2))) = fun q => ((fun x => decide (x ≠ p)) ∘ fun x : Int × Int => x.1) q && decide (q.2 = upI p i) := by
    funext q
    rw [Bool.eq_iff_iff]
    simp only [Function.comp, Bool.and_eq_true, decide_eq_true_eq, cu2]
    constructor
    · rintro ⟨h1, h2, h3⟩
      exact ⟨fun z => h2 z.symm, by rw [← of_decide_eq_true h1, up_cu (fun z => h3 z.symm)]⟩
    · rintro ⟨h1, h2⟩
      exact ⟨decide_eq_true (show cu p q.2 = i by rw [h2, cu_up]), fun z => h1 z.symm, by rw [h2]; exact fun z => up_ne p i z.symm⟩
  rw [this]
  rfl
theorem sm_drop {l : List Int} {f : Int → Int} (h : f p = 0) : sm (l.filter fun x => decide (x ≠ p)) f = sm l f := by
  induction l with
  | nil => rfl
  | cons x l ih =>
    rw [List.filter_cons, sm_cons]
    by_cases e : x = p
    · rw [if_neg (by simpa using e), ih, e, h]; omega
    · rw [if_pos (by simpa using e), sm_cons, ih]
theorem sm_map (l : List Int) (f h : Int → Int) : sm (l.map h) f = sm l (fun x => f (h x)) := by
  unfold sm; rw [List.map_map]; rfl
theorem wt_uniq {nx : Int → List Int} {gg : Int → Nat} (hg : ∀ p a, a ∈ nx p → gg a < gg p) (hin : ∀ x ∈ rngI m, ∀ a ∈ nx x, a ∈ rngI m) {u v : Int → Int} (hu : ∀ x ∈ rngI m, u x = 1 - sm (nx x) u) (hv : ∀ x ∈ rngI m, v x = 1 - sm (nx x) v) : ∀ x ∈ rngI m, u x = v x := by
  have go : ∀ (k : Nat) (x : Int), gg x < k → x ∈ rngI m → u x = v x := by
    intro k
    induction k with
    | zero => intro x h; omega
    | succ k ih =>
      intro x h hx
      rw [hu x hx, hv x hx, sm_congr fun a ha => ih a (by have := hg x a ha; omega) (hin x hx a ha)]
  exact fun x hx => go (gg x + 1) x (by omega) hx
theorem rng_up (hp : p ∈ rngI (m + 1)) : ((rngI m).map (upI p)).Perm ((rngI (m + 1)).filter fun x => decide (x ≠ p)) := by
  refine (List.perm_ext_iff_of_nodup ?_ ((rngI_nd _).filter _)).mpr fun x => ?_
  · rw [List.nodup_iff_pairwise_ne, List.pairwise_map]
    exact (rngI_nd m).imp fun h z => h (by have := congrArg (cu p) z; rwa [cu_up, cu_up] at this)
  · rw [List.mem_map, List.mem_filter, decide_eq_true_eq]
    constructor
    · rintro ⟨i, hi, rfl⟩
      exact ⟨up_in hi, up_ne p i⟩
    · rintro ⟨h1, h2⟩
      exact ⟨cu p x, cu_inr hp h1 h2, up_cu h2⟩
theorem fold_sum {nx nx' : Int → List Int} {gg : Int → Nat} {f f' : Int → Int} (hp : p ∈ rngI (m + 1)) (f0 : f p = 0) (hf : ∀ x ∈ rngI (m + 1), f x = 1 - sm (nx x) f) (hf' : ∀ i ∈ rngI m, f' i = 1 - sm (nx' i) f') (hn : ∀ i, nx' i = ((nx (upI p i)).filter fun x => decide (x ≠ p)).map (cu p))
    (hg : ∀ p a, a ∈ nx' p → gg a < gg p) (hin : ∀ x ∈ rngI m, ∀ a ∈ nx' x, a ∈ rngI m) : sm (rngI m) f' = sm (rngI (m + 1)) f := by
  have e : ∀ i ∈ rngI m, f' i = f (upI p i) := wt_uniq hg hin hf' fun i hi => by
    rw [hf _ (up_in hi), hn, sm_map, ← sm_drop (p := p) (l := nx (upI p i)) f0]
    congr 1
    refine sm_congr fun x hx => ?_
    have := of_decide_eq_true (List.mem_filter.mp hx).2
    rw [up_cu this]
  rw [sm_congr e, ← sm_map, sm_perm (rng_up hp), sm_drop f0]
theorem beat_o (o : Ordr ps) (nd : ps.Nodup) (hin : InRg n ps) (hp : p ∈ rngI n) (h1 : (p, g) ∈ ps) (h2 : ∀ a, (p, a) ∈ ps → leqP ps g a) : wO n ps p = 0 := by
  have hg : g ∈ rngI n := (hin _ h1).2
  have e : sm (po ps p) (wO n ps) = sm (g :: po ps g) (wO n ps) := sm_perm ((List.perm_ext_iff_of_nodup (po_nd nd p) (List.nodup_cons.mpr ⟨fun z => o.irr g (mem_po.mp z), po_nd nd g⟩)).mpr fun x => by
    rw [List.mem_cons, mem_po, mem_po]
    constructor
    · intro h
      rcases h2 x h with z | z
      · exact .inl z.symm
      · exact .inr z
    · rintro (rfl | h)
      · exact h1
      · exact o.trs _ _ _ h1 h) _
  have a1 := wO_eq hin o nd hg
  have a2 := wO_eq hin o nd hp
  rw [e, sm_cons] at a2
  omega
theorem beat_u (o : Ordr ps) (nd : ps.Nodup) (hin : InRg n ps) (hp : p ∈ rngI n) (h1 : (g, p) ∈ ps) (h2 : ∀ a, (a, p) ∈ ps → leqP ps a g) : wU n ps p = 0 := by
  have hg : g ∈ rngI n := (hin _ h1).1
  have e : sm (pu ps p) (wU n ps) = sm (g :: pu ps g) (wU n ps) := sm_perm ((List.perm_ext_iff_of_nodup (pu_nd nd p) (List.nodup_cons.mpr ⟨fun z => o.irr g (mem_pu.mp z), pu_nd nd g⟩)).mpr fun x => by
    rw [List.mem_cons, mem_pu, mem_pu]
    constructor
    · intro h
      exact h2 x h
    · rintro (rfl | h)
      · exact h1
      · exact o.trs _ _ _ h h1) _
  have a1 := wU_eq hin o nd hg
  have a2 := wU_eq hin o nd hp
  rw [e, sm_cons] at a2
  omega
theorem ec_fold (o : Ordr ps) (nd : ps.Nodup) (hin : InRg (m + 1) ps) (hp : p ∈ rngI (m + 1)) (h : Goal ps p g) : ecF m (woF ps p) = ecF (m + 1) ps := by
  have o' := wo_ord (p := p) o
  have nd' := wo_nd (p := p) nd
  have hin' := wo_rg hin hp
  rcases h with ⟨h1, h2⟩ | ⟨h1, h2⟩
  · rw [ec_both hin o nd, ec_both hin' o' nd']
    exact fold_sum (nx := po ps) (nx' := po (woF ps p)) (gg := gO (woF ps p)) hp (beat_o o nd hin hp h1 h2) (fun x hx => wO_eq hin o nd hx) (fun i hi => wO_eq hin' o' nd' hi) wo_po (gO_lt o' nd') fun x _ a ha => (hin' _ (mem_po.mp ha)).2
  · exact fold_sum (nx := pu ps) (nx' := pu (woF ps p)) (gg := gU (woF ps p)) hp (beat_u o nd hin hp h1 h2) (fun x hx => wU_eq hin o nd hx) (fun i hi => wU_eq hin' o' nd' hi) wo_pu (gU_lt o' nd') fun x _ a ha => (hin' _ (mem_pu.mp ha)).1
noncomputable def lpF (n : Nat) (ps : List (Int × Int)) : List Int := (rngI n).filter fun p => lB ps p
theorem cm_count : (cmF n ps n).length = (lpF n ps).length := List.length_map _
theorem lead_in (hin : InRg m qs) {x : Int} (hx : x ∈ rngI m) : leadF qs m x ∈ rngI m := (lead_cn m x).inr hin hx
theorem lp_le (φ : Int → Int) (hin : InRg m qs) (h1 : ∀ r ∈ rngI n, φ r ∈ rngI m) (h2 : ∀ r ∈ rngI n, ∀ s ∈ rngI n, Cn qs (φ r) (φ s) → Cn ps r s) : (lpF n ps).length ≤ (lpF m qs).length := by
  have nd : ((lpF n ps).map fun r => leadF qs m (φ r)).Nodup := by
    rw [List.nodup_iff_pairwise_ne, List.pairwise_map]
    refine ((rngI_nd n).filter _).imp_of_mem fun {r s} hr hs hne z => hne ?_
    have hr' := List.mem_filter.mp hr
    have hs' := List.mem_filter.mp hs
    have c : Cn qs (φ r) (φ s) := by
      have := lead_cn (ps := qs) m (φ r)
      rw [z] at this
      exact this.trans (lead_cn m (φ s)).symm
    have c := h2 r hr'.1 s hs'.1 c
    have a1 := lB_iff.mp hr'.2 s c
    have a2 := lB_iff.mp hs'.2 r c.symm
    omega
  have := sub_len (m := lpF m qs) nd fun x hx => by
    obtain ⟨r, hr, rfl⟩ := List.mem_map.mp hx
    have hr' := h1 r (List.mem_filter.mp hr).1
    refine List.mem_filter.mpr ⟨lead_in hin hr', lB_iff.mpr ((lead_isL hin (lead_in hin hr')).mp ?_)⟩
    exact (lead_same hin hr' (lead_cn m (φ r))).symm
  rwa [List.length_map] at this
def rhoF (p g x : Int) : Int := if x = p then g else x
theorem rho_ne (h : g ≠ p) (x : Int) : rhoF p g x ≠ p := by
  unfold rhoF
  split
  · exact h
  · assumption
theorem cn_up {i j : Int} (h : Cn (woF ps p) i j) : Cn ps (upI p i) (upI p j) := by
  induction h with
  | rfl a => exact .rfl _
  | step e _ ih => exact .step (e.imp mem_wo.mp mem_wo.mp) ih
theorem adj_cu {a b : Int} (ha : a ≠ p) (hb : b ≠ p) (h : adj ps a b) : adj (woF ps p) (cu p a) (cu p b) := by
  refine h.imp (fun h => mem_wo.mpr ?_) (fun h => mem_wo.mpr ?_)
  · rw [up_cu ha, up_cu hb]; exact h
  · rw [up_cu ha, up_cu hb]; exact h
theorem cn_rho (o : Ordr ps) (hne : g ≠ p) (h : Goal ps p g) {a b : Int} (c : Cn ps a b) : Cn (woF ps p) (cu p (rhoF p g a)) (cu p (rhoF p g b)) := by
  have near : ∀ y, adj ps p y → y = g ∨ adj ps g y := fun y e => by
    rcases h with ⟨h1, h2⟩ | ⟨h1, h2⟩
    · rcases e with e | e
      · exact (h2 y e).imp Eq.symm Or.inl
      · exact Or.inr (Or.inr (o.trs _ _ _ e h1))
    · rcases e with e | e
      · exact Or.inr (Or.inl (o.trs _ _ _ h1 e))
      · exact (h2 y e).imp id Or.inr
  induction c with
  | rfl a => exact .rfl _
  | @step a b c e _ ih =>
    refine Cn.trans ?_ ih
    have irr : ∀ x, ¬ adj ps x x := fun x z => z.elim (o.irr x) (o.irr x)
    by_cases ha : a = p
    · subst ha
      have hb : b ≠ a := fun z => by rw [z] at e; exact irr a e
      have e1 : rhoF a g a = g := if_pos rfl
      have e2 : rhoF a g b = b := if_neg hb
      rw [e1, e2]
      rcases near b e with z | z
      · rw [z]; exact .rfl _
      · exact .one (adj_cu hne hb z)
    · have e1 : rhoF p g a = a := if_neg ha
      rw [e1]
      by_cases hb : b = p
      · subst hb
        have e2 : rhoF b g b = g := if_pos rfl
        rw [e2]
        rcases near a e.symm with z | z
        · rw [z]; exact .rfl _
        · exact .one (adj_cu ha hne z.symm)
      · have e2 : rhoF p g b = b := if_neg hb
        rw [e2]
        exact .one (adj_cu ha hb e)
theorem goal_ne (o : Ordr ps) (h : Goal ps p g) : g ≠ p := fun z => by
  rcases h with ⟨h1, _⟩ | ⟨h1, _⟩
  · rw [z] at h1; exact o.irr p h1
  · rw [z] at h1; exact o.irr p h1
theorem goal_adj (h : Goal ps p g) : adj ps p g := h.imp And.left And.left
theorem lp_fold (o : Ordr ps) (hin : InRg (m + 1) ps) (hp : p ∈ rngI (m + 1)) (h : Goal ps p g) : (lpF m (woF ps p)).length = (lpF (m + 1) ps).length := by
  have hne := goal_ne o h
  have hgn : g ∈ rngI (m + 1) := (goal_adj h).inr hin
  apply Nat.le_antisymm
  · refine lp_le (upI p) hin (fun r hr => up_in hr) fun r hr s hs c => ?_
    have := cn_rho o hne h c
    have e : ∀ i, rhoF p g (upI p i) = upI p i := fun i => if_neg (up_ne p i)
    rw [e, e, cu_up, cu_up] at this
    exact this
  · refine lp_le (fun r => cu p (rhoF p g r)) (wo_rg hin hp) (fun r hr => cu_inr hp ?_ (rho_ne hne r)) fun r hr s hs c => ?_
    · unfold rhoF
      split
      · exact hgn
      · exact hr
    · have c := cn_up c
      rw [up_cu (rho_ne hne r), up_cu (rho_ne hne s)] at c
      have t : ∀ x, Cn ps x (rhoF p g x) := fun x => by
        unfold rhoF
        split
        · rename_i e
          rw [e]; exact .one (goal_adj h)
        · exact .rfl x
      exact (t r).trans (c.trans (t s).symm)
theorem adj_congr (h : ∀ a b, adj qs a b ↔ adj ps a b) {a b : Int} : Cn qs a b ↔ Cn ps a b := by
  constructor
  · intro c
    induction c with
    | rfl a => exact .rfl a
    | step e _ ih => exact .step ((h _ _).mp e) ih
  · intro c
    induction c with
    | rfl a => exact .rfl a
    | step e _ ih => exact .step ((h _ _).mpr e) ih
theorem lp_congr (h : ∀ a b, adj qs a b ↔ adj ps a b) : lpF n qs = lpF n ps := by
  unfold lpF
  refine List.filter_congr fun p _ => ?_
  rw [Bool.eq_iff_iff, lB_iff, lB_iff]
  exact ⟨fun z q c => z q ((adj_congr h).mpr c), fun z q c => z q ((adj_congr h).mp c)⟩
theorem ec_turn (hin : InRg n ps) (o : Ordr ps) (nd : ps.Nodup) (hin' : InRg n qs) (o' : Ordr qs) (nd' : qs.Nodup) (h : ∀ a b, (a, b) ∈ qs ↔ (b, a) ∈ ps) : ecF n qs = ecF n ps := by
  rw [ec_both hin o nd]
  refine sm_congr (wt_uniq (nx := po ps) (gg := gO ps) (gO_lt o nd) (fun x _ a ha => (hin _ (mem_po.mp ha)).2) (fun x hx => ?_) fun x hx => wO_eq hin o nd hx)
  rw [wU_eq hin' o' nd' hx]
  congr 1
  exact sm_perm ((List.perm_ext_iff_of_nodup (pu_nd nd' x) (po_nd nd x)).mpr fun y => by rw [mem_pu, mem_po, h]) _
theorem lp_turn (h : ∀ a b, (a, b) ∈ qs ↔ (b, a) ∈ ps) : lpF n qs = lpF n ps := lp_congr fun a b => by
  unfold adj
  rw [h, h]
  exact Or.comm
theorem ec_more (hin : InRg n ps) (o : Ordr ps) (nd : ps.Nodup) (hin' : InRg (n + 1) ps) : ecF (n + 1) ps = ecF n ps + 1 := by
  unfold ecF
  rw [rngI_succ, sm_app]
  have nn : (n : Int) ∉ rngI n := fun z => by have := rngI_mem.mp z; omega
  have e0 : pu ps (n : Int) = [] := List.eq_nil_iff_forall_not_mem.mpr fun x hx => nn (hin _ (mem_pu.mp hx)).2
  have e1 : wU (n + 1) ps (n : Int) = 1 := by
    have hm : (n : Int) ∈ rngI (n + 1) := rngI_mem.mpr ⟨by omega, by omega⟩
    rw [wU_eq hin' o nd hm, e0, sm_nil]
    rfl
  rw [sm_cons, sm_nil, e1]
  have : sm (rngI n) (wU (n + 1) ps) = sm (rngI n) (wU n ps) := sm_congr fun x hx => wt_stable (gU_lt o nd) n x (gU_le hin o nd hx)
  rw [this]; omega
theorem lp_more (hin : InRg n ps) : (lpF (n + 1) ps).length = (lpF n ps).length + 1 := by
  unfold lpF
  rw [rngI_succ, List.filter_append]
  have nn : (n : Int) ∉ rngI n := fun z => by have := rngI_mem.mp z; omega
  have l : lB ps (n : Int) = true := lB_iff.mpr fun q c => by
    cases c with
    | rfl => exact Int.le_refl _
    | step e _ =>
      rcases e with e | e
      · exact absurd (hin _ e).1 nn
      · exact absurd (hin _ e).2 nn
  simp [l]
theorem ec_top (hin' : InRg (n + 1) qs) (o' : Ordr qs) (nd' : qs.Nodup) (h : ∀ a, a ∈ rngI n → (a, (n : Int)) ∈ qs) : ecF (n + 1) qs = 1 := by
  unfold ecF
  rw [rngI_succ, sm_app, sm_cons, sm_nil]
  have hm : (n : Int) ∈ rngI (n + 1) := rngI_mem.mpr ⟨by omega, by omega⟩
  have e : sm (pu qs (n : Int)) (wU (n + 1) qs) = sm (rngI n) (wU (n + 1) qs) := sm_perm ((List.perm_ext_iff_of_nodup (pu_nd nd' _) (rngI_nd n)).mpr fun x => by
    rw [mem_pu]
    refine ⟨fun z => ?_, h x⟩
    have h1 := rngI_mem.mp (hin' _ z).1
    refine rngI_mem.mpr ⟨h1.1, ?_⟩
    have : x ≠ (n : Int) := fun w => by rw [w] at z; exact o'.irr _ z
    dsimp only at h1
    omega) _
  have := wU_eq hin' o' nd' hm
  rw [e] at this
  omega
theorem lp_top (hin' : InRg (n + 1) qs) (h : ∀ a, a ∈ rngI n → (a, (n : Int)) ∈ qs) : (lpF (n + 1) qs).length = 1 := by
  have all : ∀ a, a ∈ rngI (n + 1) → Cn qs a (n : Int) := fun a ha => by
    by_cases e : a = (n : Int)
    · rw [e]; exact .rfl _
    · have := rngI_mem.mp ha
      exact .one (.inl (h a (rngI_mem.mpr ⟨this.1, by omega⟩)))
  have m0 : (0 : Int) ∈ rngI (n + 1) := rngI_mem.mpr ⟨by omega, by omega⟩
  have e : lpF (n + 1) qs = (rngI (n + 1)).filter fun p => decide (p = 0) := List.filter_congr fun p hp => by
    rw [Bool.eq_iff_iff, lB_iff, decide_eq_true_eq]
    have hp' := rngI_mem.mp hp
    constructor
    · intro z
      have := z 0 ((all p hp).trans (all 0 m0).symm)
      omega
    · rintro rfl q c
      exact (rngI_mem.mp (c.inr hin' m0)).1
  have pm : ((rngI (n + 1)).filter fun p => decide (p = 0)).Perm [0] := (List.perm_ext_iff_of_nodup ((rngI_nd _).filter _) (by simp)).mpr fun x => by
    rw [List.mem_filter, decide_eq_true_eq, List.mem_singleton]
    exact ⟨And.right, fun z => ⟨by rw [z]; exact m0, z⟩⟩
  rw [e, pm.length_eq]
  rfl
end
def Pref (ds : List PyData) (RS : Dt → Prop) : Prop := ∃ m : Int, ds = [.int m] ∧ 1 ≤ m ∧ m ≤ 16 ∧ RS (.d .none)
def shP2 (n : Int) (q : Int × Int) : Int × Int := (q.1 + n, q.2 + n)
def Pbes (ds : List PyData) (RS : Dt → Prop) : Prop := ∃ (n m : Int) (ps qs : List (Int × Int)), ds = [spD n ps, spD m qs] ∧ ps.length + qs.length < 1000 ∧ 1 ≤ n + m ∧ n + m ≤ 16 ∧ RS (.d (spD (n + m) (ps ++ qs.map (shP2 n))))
def Srt (qs : List (Int × Int)) : Prop := qs.Pairwise fun x y => x.1 * 100 + x.2 ≤ y.1 * 100 + y.2
def swP (q : Int × Int) : Int × Int := (q.2, q.1)
def InB (ps : List (Int × Int)) : Prop := ∀ q ∈ ps, (0 ≤ q.1 ∧ q.1 < 100) ∧ 0 ≤ q.2 ∧ q.2 < 100
def Pturn (ds : List PyData) (RS : Dt → Prop) : Prop := ∃ (n : Int) (ps : List (Int × Int)), ds = [spD n ps] ∧ ps.length < 64 ∧ InB ps ∧ ∀ qs, qs.Perm (ps.map swP) → Srt qs → RS (.d (spD n qs))
def topL (n : Nat) (ps : List (Int × Int)) : List (Int × Int) := ps ++ (rngI n).map fun x => (x, (n : Int))
def Ptop (ds : List PyData) (RS : Dt → Prop) : Prop := ∃ (n : Nat) (ps : List (Int × Int)), ds = [spD n ps] ∧ 1 ≤ n ∧ n + 1 ≤ 16 ∧ ps.length + n < 64 ∧ InB ps ∧ ∀ qs, qs.Perm (topL n ps) → Srt qs → RS (.d (spD ((n : Int) + 1) qs))
theorem blk_snoc (m : Nat) (t : Rel) (a : Nat) : (List.range (a + 1)).flatMap (rowOf m t) = (List.range a).flatMap (rowOf m t) ++ ((List.range m).filter (t a)).map (fun (b : Nat) => ((a : Int), (b : Int))) := by
  rw [List.range_succ, List.flatMap_append]
  simp [rowOf]
def cntF (f : Nat → Bool) (n : Nat) : Nat := ((List.range n).filter f).length
theorem cnt_succ (f : Nat → Bool) (n : Nat) : cntF f (n + 1) = cntF f n + (if f n = true then 1 else 0) := by
  unfold cntF
  rw [List.range_succ, List.filter_append, List.length_append]
  by_cases h : f n = true <;> simp [h]
def lenF (t : Rel) (n m : Nat) : Nat := ((List.range n).flatMap (rowOf m t)).length
theorem len_succ (t : Rel) (n m : Nat) : lenF t (n + 1) m = lenF t n m + cntF (t n) m := by
  unfold lenF cntF
  rw [blk_snoc, List.length_append, List.length_map]
theorem len_wide (t : Rel) (m : Nat) : ∀ n, lenF t n (m + 1) = lenF t n m + cntF (fun a => t a m) n
  | 0 => rfl
  | n + 1 => by
    rw [len_succ, len_succ, len_wide t m n, cnt_succ, cnt_succ]
    omega
theorem cnt_two {f g : Nat → Bool} : ∀ {n : Nat}, (∀ a, a < n → ¬ (f a = true ∧ g a = true)) → cntF f n + cntF g n ≤ n
  | 0, _ => Nat.le_refl _
  | n + 1, h => by
    have ih := cnt_two (f := f) (g := g) (n := n) fun a ha => h a (by omega)
    have hn := h n (by omega)
    rw [cnt_succ, cnt_succ]
    by_cases h1 : f n = true <;> by_cases h2 : g n = true
    · exact absurd ⟨h1, h2⟩ hn
    all_goals simp [h1, h2]; omega
theorem len_tri {t : Rel} : ∀ {m : Nat}, (∀ a, a < m → t a a = false) → (∀ a b, a < m → b < m → ¬ (t a b = true ∧ t b a = true)) → 2 * lenF t m m ≤ m * (m - 1)
  | 0, _, _ => Nat.le_refl _
  | m + 1, h1, h2 => by
    have ih := len_tri (t := t) (m := m) (fun a ha => h1 a (by omega)) fun a b ha hb => h2 a b (by omega) (by omega)
    have c := cnt_two (f := fun a => t a m) (g := t m) (n := m) fun a ha => h2 a m (by omega) (by omega)
    have e : lenF t (m + 1) (m + 1) = lenF t m m + cntF (fun a => t a m) m + cntF (t m) m := by
      rw [len_succ, len_wide, cnt_succ, if_neg (by rw [h1 m (by omega)]; exact Bool.false_ne_true)]
      omega
    rw [e]
    have q : (m + 1) * (m + 1 - 1) = m * (m - 1) + 2 * m := by
      cases m with
      | zero => rfl
      | succ k => simp only [Nat.add_sub_cancel]; rw [Nat.add_mul, Nat.mul_add, Nat.mul_add, Nat.mul_add]; omega
    omega
theorem IsSp.tri {m : Nat} {ts : List (Int × Int)} (h : IsSp m ts) : 2 * ts.length ≤ m * (m - 1) := by
  obtain ⟨t, rfl, h1, h2⟩ := h
  refine len_tri h1 fun a b ha hb z => ?_
  have := h2 a b a ha hb ha z.1 z.2
  rw [h1 a ha] at this
  cases this
theorem SpOk.inB {n : Nat} {ps : List (Int × Int)} (sp : SpOk n ps) : InB ps := fun q hq => by
  obtain ⟨h1, h2⟩ := sp.inr q hq
  have h1 := rngI_mem.mp h1
  have h2 := rngI_mem.mp h2
  have := sp.n16
  refine ⟨⟨?_, ?_⟩, ?_, ?_⟩ <;> omega
structure Alike (n : Nat) (ps : List (Int × Int)) (m : Nat) (qs : List (Int × Int)) : Prop where
  ok : SpOk m qs
  ec : ecF m qs = ecF n ps
  lp : (lpF m qs).length = (lpF n ps).length
  le : qs.length ≤ ps.length
theorem wo_alike {m : Nat} {ps : List (Int × Int)} {p : Int} (sp : SpOk (m + 1) ps) (h0 : 0 ≤ p) (h1 : p < ((m + 1 : Nat) : Int)) (h2 : (goalF ps p).isSome = true) : Alike (m + 1) ps m (woF ps p) := by
  obtain ⟨g, hg⟩ := Option.isSome_iff_exists.mp h2
  have go := goal_spec hg
  have hp : p ∈ rngI (m + 1) := rngI_mem.mpr ⟨h0, h1⟩
  have gn := rngI_mem.mp ((goal_adj go).inr sp.inr)
  have ne := goal_ne sp.ord go
  have l := wo_len ps p
  have n16 := sp.n16
  have len := sp.len
  refine ⟨⟨?_, by omega, by omega, wo_rg sp.inr hp, wo_ord sp.ord, wo_nd sp.nd⟩, ec_fold sp.ord sp.nd sp.inr hp go, lp_fold sp.ord sp.inr hp go, l⟩
  omega
theorem walk_alike {n : Nat} {ps : List (Int × Int)} {row : List Int} {n' : Nat} {ps' : List (Int × Int)} (w : Walk n ps row n' ps') (sp : SpOk n ps) : Alike n ps n' ps' := by
  induction w with
  | nil n ps => exact ⟨sp, rfl, rfl, Nat.le_refl _⟩
  | cons h0 h1 h2 _ ih =>
    have a := wo_alike sp h0 h1 h2
    have b := ih a.ok
    exact ⟨b.ok, b.ec.trans a.ec, b.lp.trans a.lp, Nat.le_trans b.le a.le⟩
theorem turn_alike {n : Nat} {ps qs : List (Int × Int)} (sp : SpOk n ps) (h : qs.Perm (ps.map swP)) : Alike n ps n qs := by
  have hm : ∀ a b, (a, b) ∈ qs ↔ (b, a) ∈ ps := fun a b => by
    rw [h.mem_iff, List.mem_map]
    constructor
    · rintro ⟨q, hq, e⟩
      have e1 : q.2 = a := congrArg Prod.fst e
      have e2 : q.1 = b := congrArg Prod.snd e
      rw [← e1, ← e2]
      exact hq
    · exact fun z => ⟨_, z, rfl⟩
  have l : qs.length = ps.length := by rw [h.length_eq, List.length_map]
  have nd : qs.Nodup := by
    rw [h.nodup_iff, List.nodup_iff_pairwise_ne, List.pairwise_map]
    exact sp.nd.imp fun {a b} hne z => hne (Prod.ext (congrArg Prod.snd z) (congrArg Prod.fst z))
  have inr : InRg n qs := fun q hq => (sp.inr _ ((hm q.1 q.2).mp hq)).symm
  have ord : Ordr qs := ⟨fun x z => sp.ord.irr x ((hm x x).mp z), fun x y z h1 h2 => (hm x z).mpr (sp.ord.trs _ _ _ ((hm y z).mp h2) ((hm x y).mp h1))⟩
  exact ⟨⟨sp.n1, sp.n16, by rw [l]; exact sp.len, inr, ord, nd⟩, ec_turn sp.inr sp.ord sp.nd inr ord nd hm, by rw [lp_turn hm], by omega⟩
theorem more_ok {n : Nat} {ps : List (Int × Int)} (sp : SpOk n ps) (h : n + 1 ≤ 16) : SpOk (n + 1) ps :=
  ⟨by omega, h, sp.len, fun q hq => by
    obtain ⟨h1, h2⟩ := sp.inr q hq
    have h1 := rngI_mem.mp h1
    have h2 := rngI_mem.mp h2
    exact ⟨rngI_mem.mpr ⟨by omega, by omega⟩, rngI_mem.mpr ⟨by omega, by omega⟩⟩, sp.ord, sp.nd⟩
theorem top_ok {n : Nat} {ps qs : List (Int × Int)} (sp : SpOk n ps) (h : n + 1 ≤ 16) (hl : ps.length + n < 64) (hq : qs.Perm (topL n ps)) : SpOk (n + 1) qs ∧ ∀ a, a ∈ rngI n → (a, (n : Int)) ∈ qs := by
  have nn : (n : Int) ∉ rngI n := fun z => by have := rngI_mem.mp z; omega
  have hm : ∀ a b, (a, b) ∈ qs ↔ (a, b) ∈ ps ∨ (a ∈ rngI n ∧ b = (n : Int)) := fun a b => by
    rw [hq.mem_iff]
    unfold topL
    rw [List.mem_append, List.mem_map]
    refine or_congr_right ⟨?_, ?_⟩
    · rintro ⟨x, hx, e⟩
      have e1 : x = a := congrArg Prod.fst e
      have e2 : (n : Int) = b := congrArg Prod.snd e
      rw [← e1]
      exact ⟨hx, e2.symm⟩
    · rintro ⟨hx, rfl⟩
      exact ⟨a, hx, rfl⟩
  have up : ∀ x, x ∈ rngI n → x ∈ rngI (n + 1) := fun x hx => by have := rngI_mem.mp hx; exact rngI_mem.mpr ⟨by omega, by omega⟩
  refine ⟨⟨by omega, h, ?_, fun q hq => ?_, ⟨fun x z => ?_, fun x y z h1 h2 => ?_⟩, ?_⟩, fun a ha => (hm a n).mpr (.inr ⟨ha, rfl⟩)⟩
  · rw [hq.length_eq]
    unfold topL
    rw [List.length_append, List.length_map, rngI_len]
    omega
  · rcases (hm q.1 q.2).mp hq with z | ⟨z, e⟩
    · exact ⟨up _ (sp.inr _ z).1, up _ (sp.inr _ z).2⟩
    · exact ⟨up _ z, by rw [e]; exact rngI_mem.mpr ⟨by omega, by omega⟩⟩
  · rcases (hm x x).mp z with z | ⟨z, e⟩
    · exact sp.ord.irr x z
    · rw [e] at z; exact nn z
  · rcases (hm y z).mp h2 with b | ⟨b, e⟩
    · rcases (hm x y).mp h1 with a | ⟨a, e⟩
      · exact (hm x z).mpr (.inl (sp.ord.trs _ _ _ a b))
      · rw [e] at b
        exact absurd (sp.inr _ b).1 nn
    · refine (hm x z).mpr (.inr ⟨?_, e⟩)
      rcases (hm x y).mp h1 with a | ⟨a, _⟩
      · exact (sp.inr _ a).1
      · exact a
  · rw [hq.nodup_iff]
    unfold topL
    rw [List.nodup_append]
    refine ⟨sp.nd, ?_, fun a ha b hb e => ?_⟩
    · rw [List.nodup_iff_pairwise_ne, List.pairwise_map]
      exact (rngI_nd n).imp fun h z => h (congrArg Prod.fst z)
    · obtain ⟨x, hx, rfl⟩ := List.mem_map.mp hb
      rw [e] at ha
      exact nn (sp.inr _ ha).2
abbrev cD (c e : Int) : PyData := .tuple [.int c, .int e]
theorem cD_eqv (c e c' e' : Int) : PyData.eqv (cD c e) (cD c' e') = decide (c = c' ∧ e = e') := by
  have h := eqv_pairs [(c, e)] [(c', e')]
  have h2 : PyData.eqv (cD c e) (cD c' e') = PyData.eqvAll ([(c, e)].map pD) ([(c', e')].map pD) := by
    show _ = (PyData.eqv (cD c e) (cD c' e') && true)
    rw [Bool.and_true]
  rw [h2, h, Bool.eq_iff_iff]
  simp
theorem cnt_len {n : Nat} {ps : List (Int × Int)} : ((((cmF n ps n).map fun l => l.map PyData.int).map PyData.list).length : Int) = ((lpF n ps).length : Int) := by
  rw [List.length_map, List.length_map, cm_count]
theorem three {α : Type} {a b c y : α} {k : Nat} (h : [a, b, c][k]? = some y) : y = a ∨ y = b ∨ y = c := by
  have := List.mem_of_getElem? h
  simpa using this
section
variable {P : Program} {w : World} {K : PySem.W.Frag} {mg : Str → Option Value} {base : Heap}
theorem scDw : FnScope ["space", "script", "at", "cell", "digits", "row", "some", "pick"] ["space", "script", "at"] (defScope s__law_drawn_row) := ⟨rfl, rfl, rfl, by decide +kernel, rfl, by decide +kernel, by decide +kernel⟩
theorem ok_Dw {f : Addr} {fd : FuncData} (F : Fun K "_law_drawn_row" "_law_drawn_row" s__law_drawn_row f fd) (T : Txt K mg) (GDRw : Fn P w K mg base "_law_raw" 1 ["script", "k"] (spG K Pcell)) (GDDr : Fn P w K mg base "_law_draw" 1 ["cell", "k", "bound"] (spG K Pdraw)) (GDSt : Fn P w K mg base "_law_stir" 1 ["cell"] (spG K Pstir)) (GLf : Fn P w K mg base "_law_foldable" 2 ["space"] (spG K Pfoldable)) (GLo : Fn P w K mg base "_law_without" 1 ["space", "point"] (spG K Plwo)) :
    FnOk P w K mg base CX0 3 f fd ["space", "script", "at"] (spG K Pdrawn) := by
  refine F.okG scDw (fun ds RS h => ?_) (fun cdv A outer s H E hr => (dss_cons (ds_set 3 (fun _ => scDw.nd) (de_call GDRw (fun _ => hr.mono (by decide)) (da_cons (de_var 1) (da_cons (de_var 2) da_nil))))
      (dss_cons (ds_set 4 (fun _ => scDw.nd) (de_bin od_fdiv (db_var 3) (de_int).bw))
      (dss_cons (ds_setO 5 (fun _ => scDw.nd) (do_lst da_nil))
      (dss_cons (ds_set 6 (fun _ => scDw.nd) ((do_call GLf (fun _ => hr.mono (by decide)) (da_cons (de_var 0) da_nil)).ew))
      (dss_cons (ds_while (fun _ => PassesOwn.never) (dt_cmp (od_ne (fun _ => room_u hr (by decide))) (db_var 6) (do_lst da_nil).bw) (dss_cons (ds_set 7 (fun _ => scDw.nd) (de_bin od_mod (db_var 4) (de_len (dq_var 6) (fun _ => T.len)).bw))
      (dss_cons (ds_set 4 (fun _ => scDw.nd) (de_bin od_fdiv (db_var 4) (de_len (dq_var 6) (fun _ => T.len)).bw))
      (dss_cons (ds_if (dt_cmp (od_eq (fun _ => room_u hr (by decide))) (de_bin od_mod (db_var 3) (de_int).bw).bw (de_int).bw) (dss_one (ds_set 7 (fun _ => scDw.nd) (de_call GDDr (fun _ => hr.mono (by decide)) (da_cons (de_call GDSt (fun _ => hr.mono (by decide)) (da_cons (de_var 3) da_nil)) (da_cons (de_len (dq_var 5) (fun _ => T.len)) (da_cons (de_len (dq_var 6) (fun _ => T.len)) da_nil)))))) dss_nil)
      (dss_cons (ds_app 5 (de_ix (dq_var 6) (db_var 7)))
      (dss_cons (ds_set 0 (fun _ => scDw.nd) (de_call GLo (fun _ => hr.mono (by decide)) (da_cons (de_var 0) (da_cons (de_ix (dq_var 5) (de_neg (de_int)).bw) da_nil))))
      (dss_one (ds_set 6 (fun _ => scDw.nd) ((do_call GLf (fun _ => hr.mono (by decide)) (da_cons (de_var 0) da_nil)).ew)))))))))
      (dss_one (ds_retV 5)))))))) (fun ds RS h => ?_)
  · obtain ⟨n, ps, ns, k, rfl, _⟩ := h; rfl
  · obtain ⟨n, ps, ns, k0, rfl, hn, hin, hR⟩ := h
    refine seq_d (fun env => ∃ c : Int, env = [.d (spD n ps), .d (scrD ns), .d (.int k0), .d (.int c), .un, .un, .un, .un]) (fun N hN => ?_) ?_
    · simp only [sNewK, sNewK1, sPutK, xInK, xGetK, xSortD, xSum, xSumV, sPopL, sToOO, sAppOO, sForO, Dt.dk.injEq, xSortP, sExp, sNext, sSeq, sSet, sSetO, sRet, sRetO, sRetV, sIf, sFrz, sApp, xVar, xC, xVarB, xVarQ, xVarL, xSeq, xLst, x2, xB, xNot, xAnd, xNeg, xIf, xChain, xIx, xNil, xCons, xTup, xDisp, xLen, xTuple, xCat, xCatT, xCall, xCallO, xRange1, xAll, xPn, xPs, xIndex, xSlice, gN, gN2, rdI0, rdI, rdEq, rdNe, rdIn, reduceCtorEq, false_or, or_false, false_and, exists_false, exists_const, frz_d, frz_o, seqS, seq_l, seq_t, seq_scr, startD, capD, List.map_cons, List.map_nil, List.length_cons, List.length_nil, List.getElem?_cons_zero, List.getElem?_cons_succ, List.set_cons_zero, List.set_cons_succ, List.replicate_succ, List.replicate_zero, List.cons_append, List.nil_append, Option.some.injEq, Dt.d.injEq, Dt.o.injEq, PyData.int.injEq, PyData.bool.injEq, PyData.tuple.injEq, PyData.list.injEq, exists_eq_left, exists_eq_left', exists_eq_right, exists_and_left, true_and, and_true, ne_eq, not_false_eq_true, Option.getD_some, Option.getD_none, Nat.reduceAdd, Nat.reduceSub, Nat.reduceLeDiff, Nat.zero_le, Nat.le_refl]
      exact ⟨ns, k0, rfl, fun c => ⟨_, rfl, hN _ ⟨c, rfl⟩⟩⟩
    rintro env ⟨c, rfl⟩
    refine seq_d (fun env => ∃ dg : Int, env = [.d (spD n ps), .d (scrD ns), .d (.int k0), .d (.int c), .d (.int dg), .un, .un, .un]) (fun N hN => ?_) ?_
    · simp only [sNewK, sNewK1, sPutK, xInK, xGetK, xSortD, xSum, xSumV, sPopL, sToOO, sAppOO, sForO, Dt.dk.injEq, xSortP, sExp, sNext, sSeq, sSet, sSetO, sRet, sRetO, sRetV, sIf, sFrz, sApp, xVar, xC, xVarB, xVarQ, xVarL, xSeq, xLst, x2, xB, xNot, xAnd, xNeg, xIf, xChain, xIx, xNil, xCons, xTup, xDisp, xLen, xTuple, xCat, xCatT, xCall, xCallO, xRange1, xAll, xPn, xPs, xIndex, xSlice, gN, gN2, rdI0, rdI, rdEq, rdNe, rdIn, reduceCtorEq, false_or, or_false, false_and, exists_false, exists_const, frz_d, frz_o, seqS, seq_l, seq_t, seq_scr, startD, capD, List.map_cons, List.map_nil, List.length_cons, List.length_nil, List.getElem?_cons_zero, List.getElem?_cons_succ, List.set_cons_zero, List.set_cons_succ, List.replicate_succ, List.replicate_zero, List.cons_append, List.nil_append, Option.some.injEq, Dt.d.injEq, Dt.o.injEq, PyData.int.injEq, PyData.bool.injEq, PyData.tuple.injEq, PyData.list.injEq, exists_eq_left, exists_eq_left', exists_eq_right, exists_and_left, true_and, and_true, ne_eq, not_false_eq_true, Option.getD_some, Option.getD_none, Nat.reduceAdd, Nat.reduceSub, Nat.reduceLeDiff, Nat.zero_le, Nat.le_refl]
      exact ⟨by simp [CDiv], hN _ ⟨_, rfl⟩⟩
    rintro env ⟨dg, rfl⟩
    refine seq_d (fun env => env = [.d (spD n ps), .d (scrD ns), .d (.int k0), .d (.int c), .d (.int dg), .o [], .un, .un]) (fun N hN => ?_) ?_
    · simp only [sNewK, sNewK1, sPutK, xInK, xGetK, xSortD, xSum, xSumV, sPopL, sToOO, sAppOO, sForO, Dt.dk.injEq, xSortP, sExp, sNext, sSeq, sSet, sSetO, sRet, sRetO, sRetV, sIf, sFrz, sApp, xVar, xC, xVarB, xVarQ, xVarL, xSeq, xLst, x2, xB, xNot, xAnd, xNeg, xIf, xChain, xIx, xNil, xCons, xTup, xDisp, xLen, xTuple, xCat, xCatT, xCall, xCallO, xRange1, xAll, xPn, xPs, xIndex, xSlice, gN, gN2, rdI0, rdI, rdEq, rdNe, rdIn, reduceCtorEq, false_or, or_false, false_and, exists_false, exists_const, frz_d, frz_o, seqS, seq_l, seq_t, seq_scr, startD, capD, List.map_cons, List.map_nil, List.length_cons, List.length_nil, List.getElem?_cons_zero, List.getElem?_cons_succ, List.set_cons_zero, List.set_cons_succ, List.replicate_succ, List.replicate_zero, List.cons_append, List.nil_append, Option.some.injEq, Dt.d.injEq, Dt.o.injEq, PyData.int.injEq, PyData.bool.injEq, PyData.tuple.injEq, PyData.list.injEq, exists_eq_left, exists_eq_left', exists_eq_right, exists_and_left, true_and, and_true, ne_eq, not_false_eq_true, Option.getD_some, Option.getD_none, Nat.reduceAdd, Nat.reduceSub, Nat.reduceLeDiff, Nat.zero_le, Nat.le_refl]
      exact hN _ rfl
    rintro env rfl
    refine seq_d (fun env => env = [.d (spD n ps), .d (scrD ns), .d (.int k0), .d (.int c), .d (.int dg), .o [], .d (.list ((foldF n ps).map PyData.int)), .un]) (fun N hN => ?_) ?_
    · simp only [sNewK, sNewK1, sPutK, xInK, xGetK, xSortD, xSum, xSumV, sPopL, sToOO, sAppOO, sForO, Dt.dk.injEq, xSortP, sExp, sNext, sSeq, sSet, sSetO, sRet, sRetO, sRetV, sIf, sFrz, sApp, xVar, xC, xVarB, xVarQ, xVarL, xSeq, xLst, x2, xB, xNot, xAnd, xNeg, xIf, xChain, xIx, xNil, xCons, xTup, xDisp, xLen, xTuple, xCat, xCatT, xCall, xCallO, xRange1, xAll, xPn, xPs, xIndex, xSlice, gN, gN2, rdI0, rdI, rdEq, rdNe, rdIn, reduceCtorEq, false_or, or_false, false_and, exists_false, exists_const, frz_d, frz_o, seqS, seq_l, seq_t, seq_scr, startD, capD, List.map_cons, List.map_nil, List.length_cons, List.length_nil, List.getElem?_cons_zero, List.getElem?_cons_succ, List.set_cons_zero, List.set_cons_succ, List.replicate_succ, List.replicate_zero, List.cons_append, List.nil_append, Option.some.injEq, Dt.d.injEq, Dt.o.injEq, PyData.int.injEq, PyData.bool.injEq, PyData.tuple.injEq, PyData.list.injEq, exists_eq_left, exists_eq_left', exists_eq_right, exists_and_left, true_and, and_true, ne_eq, not_false_eq_true, Option.getD_some, Option.getD_none, Nat.reduceAdd, Nat.reduceSub, Nat.reduceLeDiff, Nat.zero_le, Nat.le_refl]
      exact ⟨n, ps, rfl, hn, _, rfl, hN _ rfl⟩
    rintro env rfl
    refine ⟨fun m env => ∃ (qs : List (Int × Int)) (row : List Int) (dg : Int) (v7 : Dt), env = [.d (spD m qs), .d (scrD ns), .d (.int k0), .d (.int c), .d (.int dg), .o (row.map PyData.int), .d (.list ((foldF m qs).map PyData.int)), v7] ∧ Walk n ps row m qs ∧ InRs m qs, ⟨n, ps, [], dg, _, rfl, .nil n ps, hin⟩, ?_⟩
    rintro m env ⟨qs, row, dg, v7, rfl, w, iq⟩
    have hl := w.len
    refine ⟨_, _, rfl, rfl, Nat.zero_le _, ok_lst _, rfl, .inl (sh_lst _), _, rfl, ?_⟩
    rw [show PyData.eqv (.list ((foldF m qs).map PyData.int)) (.list []) = decide (foldF m qs = []) from eqv_ints _ []]
    refine ite2 (fun e => ?_) (fun e => ?_)
    · have hne : foldF m qs ≠ [] := by simpa using e
      have hpos : 0 < (foldF m qs).length := List.length_pos_iff.mpr hne
      refine seq_d (fun env => ∃ pk : Int, env = [.d (spD m qs), .d (scrD ns), .d (.int k0), .d (.int c), .d (.int dg), .o (row.map PyData.int), .d (.list ((foldF m qs).map PyData.int)), .d (.int pk)] ∧ 0 ≤ pk ∧ pk < (foldF m qs).length) (fun N hN => ?_) ?_
      · simp only [sNewK, sNewK1, sPutK, xInK, xGetK, xSortD, xSum, xSumV, sPopL, sToOO, sAppOO, sForO, Dt.dk.injEq, xSortP, sExp, sNext, sSeq, sSet, sSetO, sRet, sRetO, sRetV, sIf, sFrz, sApp, xVar, xC, xVarB, xVarQ, xVarL, xSeq, xLst, x2, xB, xNot, xAnd, xNeg, xIf, xChain, xIx, xNil, xCons, xTup, xDisp, xLen, xTuple, xCat, xCatT, xCall, xCallO, xRange1, xAll, xPn, xPs, xIndex, xSlice, gN, gN2, rdI0, rdI, rdEq, rdNe, rdIn, reduceCtorEq, false_or, or_false, false_and, exists_false, exists_const, frz_d, frz_o, seqS, seq_l, seq_t, seq_scr, startD, capD, List.map_cons, List.map_nil, List.length_cons, List.length_nil, List.getElem?_cons_zero, List.getElem?_cons_succ, List.set_cons_zero, List.set_cons_succ, List.replicate_succ, List.replicate_zero, List.cons_append, List.nil_append, Option.some.injEq, Dt.d.injEq, Dt.o.injEq, PyData.int.injEq, PyData.bool.injEq, PyData.tuple.injEq, PyData.list.injEq, exists_eq_left, exists_eq_left', exists_eq_right, exists_and_left, true_and, and_true, ne_eq, not_false_eq_true, Option.getD_some, Option.getD_none, Nat.reduceAdd, Nat.reduceSub, Nat.reduceLeDiff, Nat.zero_le, Nat.le_refl]
        rw [List.length_map]
        exact ⟨by omega, hN _ ⟨_, rfl, Int.emod_nonneg _ (by omega), Int.emod_lt_of_pos _ (by omega)⟩⟩
      rintro env ⟨pk, rfl, p0, p1⟩
      refine seq_d (fun env => ∃ dg : Int, env = [.d (spD m qs), .d (scrD ns), .d (.int k0), .d (.int c), .d (.int dg), .o (row.map PyData.int), .d (.list ((foldF m qs).map PyData.int)), .d (.int pk)]) (fun N hN => ?_) ?_
      · simp only [sNewK, sNewK1, sPutK, xInK, xGetK, xSortD, xSum, xSumV, sPopL, sToOO, sAppOO, sForO, Dt.dk.injEq, xSortP, sExp, sNext, sSeq, sSet, sSetO, sRet, sRetO, sRetV, sIf, sFrz, sApp, xVar, xC, xVarB, xVarQ, xVarL, xSeq, xLst, x2, xB, xNot, xAnd, xNeg, xIf, xChain, xIx, xNil, xCons, xTup, xDisp, xLen, xTuple, xCat, xCatT, xCall, xCallO, xRange1, xAll, xPn, xPs, xIndex, xSlice, gN, gN2, rdI0, rdI, rdEq, rdNe, rdIn, reduceCtorEq, false_or, or_false, false_and, exists_false, exists_const, frz_d, frz_o, seqS, seq_l, seq_t, seq_scr, startD, capD, List.map_cons, List.map_nil, List.length_cons, List.length_nil, List.getElem?_cons_zero, List.getElem?_cons_succ, List.set_cons_zero, List.set_cons_succ, List.replicate_succ, List.replicate_zero, List.cons_append, List.nil_append, Option.some.injEq, Dt.d.injEq, Dt.o.injEq, PyData.int.injEq, PyData.bool.injEq, PyData.tuple.injEq, PyData.list.injEq, exists_eq_left, exists_eq_left', exists_eq_right, exists_and_left, true_and, and_true, ne_eq, not_false_eq_true, Option.getD_some, Option.getD_none, Nat.reduceAdd, Nat.reduceSub, Nat.reduceLeDiff, Nat.zero_le, Nat.le_refl]
        rw [List.length_map]
        have := fold_len m qs
        exact ⟨⟨by omega, by omega⟩, hN _ ⟨_, rfl⟩⟩
      rintro env ⟨dg, rfl⟩
      refine seq_d (fun env => ∃ pk : Int, env = [.d (spD m qs), .d (scrD ns), .d (.int k0), .d (.int c), .d (.int dg), .o (row.map PyData.int), .d (.list ((foldF m qs).map PyData.int)), .d (.int pk)] ∧ 0 ≤ pk ∧ pk < (foldF m qs).length) (fun N hN => ?_) ?_
      · simp only [sNewK, sNewK1, sPutK, xInK, xGetK, xSortD, xSum, xSumV, sPopL, sToOO, sAppOO, sForO, Dt.dk.injEq, xSortP, sExp, sNext, sSeq, sSet, sSetO, sRet, sRetO, sRetV, sIf, sFrz, sApp, xVar, xC, xVarB, xVarQ, xVarL, xSeq, xLst, x2, xB, xNot, xAnd, xNeg, xIf, xChain, xIx, xNil, xCons, xTup, xDisp, xLen, xTuple, xCat, xCatT, xCall, xCallO, xRange1, xAll, xPn, xPs, xIndex, xSlice, gN, gN2, rdI0, rdI, rdEq, rdNe, rdIn, reduceCtorEq, false_or, or_false, false_and, exists_false, exists_const, frz_d, frz_o, seqS, seq_l, seq_t, seq_scr, startD, capD, List.map_cons, List.map_nil, List.length_cons, List.length_nil, List.getElem?_cons_zero, List.getElem?_cons_succ, List.set_cons_zero, List.set_cons_succ, List.replicate_succ, List.replicate_zero, List.cons_append, List.nil_append, Option.some.injEq, Dt.d.injEq, Dt.o.injEq, PyData.int.injEq, PyData.bool.injEq, PyData.tuple.injEq, PyData.list.injEq, exists_eq_left, exists_eq_left', exists_eq_right, exists_and_left, true_and, and_true, ne_eq, not_false_eq_true, Option.getD_some, Option.getD_none, Nat.reduceAdd, Nat.reduceSub, Nat.reduceLeDiff, Nat.zero_le, Nat.le_refl]
        refine ⟨by decide, okI _, okI _, .inl (shI _), ite2 (fun e => ?_) (fun e => hN _ ⟨_, rfl, p0, p1⟩)⟩
        exact ⟨c, rfl, fun r => ⟨_, rfl, r, _, _, rfl, by rw [List.length_map]; omega, fun r2 a1 a2 => ⟨_, rfl, hN _ ⟨r2, rfl, a1, by rw [List.length_map] at a2; exact a2⟩⟩⟩⟩
      rintro env ⟨pk, rfl, p0, p1⟩
      obtain ⟨m', rfl⟩ : ∃ m', m = m' + 1 := ⟨m - 1, by have := fold_len m qs; omega⟩
      have hpm : (foldF (m' + 1) qs).getD pk.toNat 0 ∈ foldF (m' + 1) qs := gt_mem (xs := foldF (m' + 1) qs) p0 p1
      simp only [sNewK, sNewK1, sPutK, xInK, xGetK, xSortD, xSum, xSumV, sPopL, sToOO, sAppOO, sForO, Dt.dk.injEq, xSortP, sExp, sNext, sSeq, sSet, sSetO, sRet, sRetO, sRetV, sIf, sFrz, sApp, xVar, xC, xVarB, xVarQ, xVarL, xSeq, xLst, x2, xB, xNot, xAnd, xNeg, xIf, xChain, xIx, xNil, xCons, xTup, xDisp, xLen, xTuple, xCat, xCatT, xCall, xCallO, xRange1, xAll, xPn, xPs, xIndex, xSlice, gN, gN2, rdI0, rdI, rdEq, rdNe, rdIn, reduceCtorEq, false_or, or_false, false_and, exists_false, exists_const, frz_d, frz_o, seqS, seq_l, seq_t, seq_scr, startD, capD, List.map_cons, List.map_nil, List.length_cons, List.length_nil, List.getElem?_cons_zero, List.getElem?_cons_succ, List.set_cons_zero, List.set_cons_succ, List.replicate_succ, List.replicate_zero, List.cons_append, List.nil_append, Option.some.injEq, Dt.d.injEq, Dt.o.injEq, PyData.int.injEq, PyData.bool.injEq, PyData.tuple.injEq, PyData.list.injEq, exists_eq_left, exists_eq_left', exists_eq_right, exists_and_left, true_and, and_true, ne_eq, not_false_eq_true, Option.getD_some, Option.getD_none, Nat.reduceAdd, Nat.reduceSub, Nat.reduceLeDiff, Nat.zero_le, Nat.le_refl, at_getD p0 p1]
      generalize (foldF (m' + 1) qs).getD pk.toNat 0 = p at hpm ⊢
      have hp := fold_mem hpm
      have iq2 := wo_in iq hp.1 hp.2.1
      rw [sc1] at iq2
      refine ⟨by rw [List.length_map]; omega, _, atI_last _ _, m' + 1, qs, p, rfl, by omega, hp.1, hp.2.1, iq, _, rfl, ?_⟩
      rw [sc1]
      exact ⟨m', woF qs p, rfl, by omega, _, rfl, m', Nat.lt_succ_self _, woF qs p, row ++ [p], dg, _, by rw [List.map_append]; rfl, w.snoc hp.1 hp.2.1 hp.2.2, iq2⟩
    · have h0 : foldF m qs = [] := by simpa using e
      exact ⟨_, rfl, (fun z => by cases z), hR row m qs w h0⟩
end
section
variable {P : Program} {w : World} {K : PySem.W.Frag} {mg : Str → Option Value} {base : Heap}
theorem scPc : FnScope ["space", "point", "reached", "waiting", "here", "near"] ["space", "point"] (defScope s_piece_of) := ⟨rfl, rfl, rfl, by decide +kernel, rfl, by decide +kernel, by decide +kernel⟩
theorem ok_Pc {f : Addr} {fd : FuncData} (F : Fun K "piece_of" "piece_of" s_piece_of f fd) (T : Txt K mg) (GPu : Fn P w K mg base "points_under" 1 ["space", "point"] (spG K Ppu)) (GPo : Fn P w K mg base "points_over" 1 ["space", "point"] (spG K Ppo)) :
    FnOk P w K mg base CX0 2 f fd ["space", "point"] (spG K Ppc) := by
  refine F.okG scPc (fun ds RS h => ?_) (fun cdv A outer s H E hr => (dss_cons (ds_newK1 2 (fun _ => scPc.nd) (de_var 1) (de_bl))
      (dss_cons (ds_setO 3 (fun _ => scPc.nd) (do_lst (da_cons (de_var 1) da_nil)))
      (dss_cons (ds_while (fun _ => PassesOwn.never) (dt_cmp od_gt (de_len (dq_var 3) (fun _ => T.len)).bw (de_int).bw) (dss_cons (ds_setpop 3 4 (fun _ => scPc.nd))
      (dss_one (ds_for (fun _ => PassesOwn.never) (di_seq ((do_cat (do_call GPu (fun _ => hr.mono (by decide)) (da_cons (de_var 0) (da_cons (de_var 4) da_nil))).l (do_call GPo (fun _ => hr.mono (by decide)) (da_cons (de_var 0) (da_cons (de_var 4) da_nil))).l).ew)) (dg_name 5 (fun _ => scPc.nd)) (dss_one (ds_if (dt_notinK 2 (fun _ => room_u hr (by decide)) (de_var 5)) (dss_cons (ds_putK 2 (fun _ => room_u hr (by decide)) (de_var 5) (de_bl))
      (dss_one (ds_app 3 (de_var 5)))) dss_nil))))))
      (dss_one (ds_retO (do_sortD 2 (fun _ => T.sorted)))))))) (fun ds RS h => ?_)
  · obtain ⟨n, ps, p, rfl, _⟩ := h; rfl
  · obtain ⟨n, ps, p, rfl, sp, hp, hR⟩ := h
    refine seq_d (fun env => env = [.d (spD n ps), .d (.int p), .dk (trK [p]), .un, .un, .un]) (fun N hN => ?_) ?_
    · simp only [sNewK, sNewK1, sPutK, xInK, xGetK, xSortD, xSum, xSumV, sPopL, sToOO, sAppOO, sForO, Dt.dk.injEq, xSortP, sExp, sNext, sSeq, sSet, sSetO, sRet, sRetO, sRetV, sIf, sFrz, sApp, xVar, xC, xVarB, xVarQ, xVarL, xSeq, xLst, x2, xB, xNot, xAnd, xNeg, xIf, xChain, xIx, xNil, xCons, xTup, xDisp, xLen, xTuple, xCat, xCatT, xCall, xCallO, xRange1, xAll, xPn, xPs, xIndex, xSlice, gN, gN2, rdI0, rdI, rdEq, rdNe, rdIn, reduceCtorEq, false_or, or_false, false_and, exists_false, exists_const, frz_d, frz_o, seqS, seq_l, seq_t, seq_scr, startD, capD, List.map_cons, List.map_nil, List.length_cons, List.length_nil, List.getElem?_cons_zero, List.getElem?_cons_succ, List.set_cons_zero, List.set_cons_succ, List.replicate_succ, List.replicate_zero, List.cons_append, List.nil_append, Option.some.injEq, Dt.d.injEq, Dt.o.injEq, PyData.int.injEq, PyData.bool.injEq, PyData.tuple.injEq, PyData.list.injEq, exists_eq_left, exists_eq_left', exists_eq_right, exists_and_left, true_and, and_true, ne_eq, not_false_eq_true, Option.getD_some, Option.getD_none, Nat.reduceAdd, Nat.reduceSub, Nat.reduceLeDiff, Nat.zero_le, Nat.le_refl]
      exact hN _ rfl
    rintro env rfl
    refine seq_d (fun env => env = [.d (spD n ps), .d (.int p), .dk (trK [p]), .o ([p].map PyData.int), .un, .un]) (fun N hN => ?_) ?_
    · simp only [sNewK, sNewK1, sPutK, xInK, xGetK, xSortD, xSum, xSumV, sPopL, sToOO, sAppOO, sForO, Dt.dk.injEq, xSortP, sExp, sNext, sSeq, sSet, sSetO, sRet, sRetO, sRetV, sIf, sFrz, sApp, xVar, xC, xVarB, xVarQ, xVarL, xSeq, xLst, x2, xB, xNot, xAnd, xNeg, xIf, xChain, xIx, xNil, xCons, xTup, xDisp, xLen, xTuple, xCat, xCatT, xCall, xCallO, xRange1, xAll, xPn, xPs, xIndex, xSlice, gN, gN2, rdI0, rdI, rdEq, rdNe, rdIn, reduceCtorEq, false_or, or_false, false_and, exists_false, exists_const, frz_d, frz_o, seqS, seq_l, seq_t, seq_scr, startD, capD, List.map_cons, List.map_nil, List.length_cons, List.length_nil, List.getElem?_cons_zero, List.getElem?_cons_succ, List.set_cons_zero, List.set_cons_succ, List.replicate_succ, List.replicate_zero, List.cons_append, List.nil_append, Option.some.injEq, Dt.d.injEq, Dt.o.injEq, PyData.int.injEq, PyData.bool.injEq, PyData.tuple.injEq, PyData.list.injEq, exists_eq_left, exists_eq_left', exists_eq_right, exists_and_left, true_and, and_true, ne_eq, not_false_eq_true, Option.getD_some, Option.getD_none, Nat.reduceAdd, Nat.reduceSub, Nat.reduceLeDiff, Nat.zero_le, Nat.le_refl]
      exact hN _ rfl
    rintro env rfl
    refine seq_d (fun env => ∃ ks v4 v5, env = [.d (spD n ps), .d (.int p), .dk (trK ks), .o [], v4, v5] ∧ Rc n ps p ks [] ∧ ∀ x ∈ ks, ∀ y, adj ps x y → y ∈ ks) (fun N hN => ?_) ?_
    · refine ⟨fun m env => ∃ ks ws v4 v5, env = [.d (spD n ps), .d (.int p), .dk (trK ks), .o (ws.map PyData.int), v4, v5] ∧ Rc n ps p ks ws ∧ (∀ x ∈ ks, x ∉ ws → ∀ y, adj ps x y → y ∈ ks) ∧ m = 2 * (n - ks.length) + ws.length ∧ m ≤ 40, ⟨_, [p], [p], .un, .un, rfl, ⟨by simp, by simp, fun x hx => ?_, fun x hx => hx⟩, fun x hx hn => absurd hx hn, rfl, by have := sp.n16; simp; omega⟩, ?_⟩
      · rw [List.mem_singleton.mp hx]; exact ⟨hp, .rfl p⟩
      rintro m env ⟨ks, ws, v4, v5, rfl, rc, cl, rfl, m40⟩
      simp only [sNewK, sNewK1, sPutK, xInK, xGetK, xSortD, xSum, xSumV, sPopL, sToOO, sAppOO, sForO, Dt.dk.injEq, xSortP, sExp, sNext, sSeq, sSet, sSetO, sRet, sRetO, sRetV, sIf, sFrz, sApp, xVar, xC, xVarB, xVarQ, xVarL, xSeq, xLst, x2, xB, xNot, xAnd, xNeg, xIf, xChain, xIx, xNil, xCons, xTup, xDisp, xLen, xTuple, xCat, xCatT, xCall, xCallO, xRange1, xAll, xPn, xPs, xIndex, xSlice, gN, gN2, rdI0, rdI, rdEq, rdNe, rdIn, reduceCtorEq, false_or, or_false, false_and, exists_false, exists_const, frz_d, frz_o, seqS, seq_l, seq_t, seq_scr, startD, capD, List.map_cons, List.map_nil, List.length_cons, List.length_nil, List.getElem?_cons_zero, List.getElem?_cons_succ, List.set_cons_zero, List.set_cons_succ, List.replicate_succ, List.replicate_zero, List.cons_append, List.nil_append, Option.some.injEq, Dt.d.injEq, Dt.o.injEq, PyData.int.injEq, PyData.bool.injEq, PyData.tuple.injEq, PyData.list.injEq, exists_eq_left, exists_eq_left', exists_eq_right, exists_and_left, true_and, and_true, ne_eq, not_false_eq_true, Option.getD_some, Option.getD_none, Nat.reduceAdd, Nat.reduceSub, Nat.reduceLeDiff, Nat.zero_le, Nat.le_refl]
      refine ite2 (fun e => ?_) (fun e => hN _ ?_)
      · have e : 0 < ws.length := by have := of_decide_eq_true e; rw [List.length_map] at this; omega
        rcases List.eq_nil_or_concat ws with rfl | ⟨ws, x, hw⟩
        · cases e
        rw [List.concat_eq_append] at hw
        subst hw
        have hx : x ∈ ks := rc.wk x (by simp)
        have hl := rc.len
        obtain ⟨M, hM⟩ : ∃ M, M = 2 * (n - ks.length) + (ws ++ [x]).length := ⟨_, rfl⟩
        rw [← hM]
        rw [← hM] at m40
        rw [List.length_append, List.length_singleton] at hM
        refine ⟨ws.map PyData.int, .int x, by simp, ?_⟩
        refine ⟨_, rfl, _, rfl, n, ps, x, rfl, _, rfl, _, rfl, _, rfl, n, ps, x, rfl, _, rfl, by have h1 := pu_len (ps := ps) x; have h2 := po_len (ps := ps) x; have h3 := sp.len; simp only [List.length_map]; omega, _, rfl, fun k env => ∃ ks ws v5, env = [.d (spD n ps), .d (.int p), .dk (trK ks), .o (ws.map PyData.int), .d (.int x), v5] ∧ Rc n ps p ks ws ∧ x ∈ ks ∧ (∀ z ∈ ks, z ∉ ws → z ≠ x → ∀ y, adj ps z y → y ∈ ks) ∧ (∀ (i : Nat) (z : Int), i < k → (pu ps x ++ po ps x)[i]? = some z → z ∈ ks) ∧ 2 * (n - ks.length) + ws.length < M, ?_, ?_, ?_⟩
        · exact ⟨ks, ws, _, rfl, ⟨rc.nd, rc.pin, rc.cn, fun z hz => rc.wk z (by simp [hz])⟩, hx, fun z hz h1 h2 => cl z hz (by simp [h1, h2]), fun i z hi => absurd hi (Nat.not_lt_zero _), by omega⟩
        · rintro k y env hy ⟨ks, ws, v5, rfl, rc, hx, cl, dn, hm⟩
          rw [← List.map_append, List.getElem?_map] at hy
          obtain ⟨z, hz, rfl⟩ := Option.map_eq_some_iff.mp hy
          have az := adj_near.mp (List.mem_of_getElem? hz)
          have hl := rc.len
          simp only [sNewK, sNewK1, sPutK, xInK, xGetK, xSortD, xSum, xSumV, sPopL, sToOO, sAppOO, sForO, Dt.dk.injEq, xSortP, sExp, sNext, sSeq, sSet, sSetO, sRet, sRetO, sRetV, sIf, sFrz, sApp, xVar, xC, xVarB, xVarQ, xVarL, xSeq, xLst, x2, xB, xNot, xAnd, xNeg, xIf, xChain, xIx, xNil, xCons, xTup, xDisp, xLen, xTuple, xCat, xCatT, xCall, xCallO, xRange1, xAll, xPn, xPs, xIndex, xSlice, gN, gN2, rdI0, rdI, rdEq, rdNe, rdIn, reduceCtorEq, false_or, or_false, false_and, exists_false, exists_const, frz_d, frz_o, seqS, seq_l, seq_t, seq_scr, startD, capD, List.map_cons, List.map_nil, List.length_cons, List.length_nil, List.getElem?_cons_zero, List.getElem?_cons_succ, List.set_cons_zero, List.set_cons_succ, List.replicate_succ, List.replicate_zero, List.cons_append, List.nil_append, Option.some.injEq, Dt.d.injEq, Dt.o.injEq, PyData.int.injEq, PyData.bool.injEq, PyData.tuple.injEq, PyData.list.injEq, exists_eq_left, exists_eq_left', exists_eq_right, exists_and_left, true_and, and_true, ne_eq, not_false_eq_true, Option.getD_some, Option.getD_none, Nat.reduceAdd, Nat.reduceSub, Nat.reduceLeDiff, Nat.zero_le, Nat.le_refl]
          rw [trK_get]
          by_cases hk : z ∈ ks
          · refine iteN (by rw [decide_eq_true hk]; rfl) ⟨ks, ws, _, rfl, rc, hx, cl, fun i w hi hw => ?_, hm⟩
            rcases Nat.lt_succ_iff_lt_or_eq.mp hi with hi | rfl
            · exact dn i w hi hw
            · rw [hz] at hw; cases hw; exact hk
          · have rc' := rc.add sp.inr hx az hk
            have hl' := rc'.len
            rw [List.length_append, List.length_singleton] at hl'
            rw [decide_eq_false hk]
            refine ⟨by rw [trK_len]; have := sp.n16; omega, by rw [List.length_map]; omega, ks ++ [z], ws ++ [z], _, by rw [trK_put hk, List.map_append]; rfl, rc', List.mem_append_left _ hx, fun a ha h1 h2 y hy => ?_, fun i w hi hw => ?_, by simp only [List.length_append, List.length_singleton]; omega⟩
            · have h1 : a ∉ ws ∧ a ≠ z := by simpa using h1
              rcases List.mem_append.mp ha with ha | ha
              · exact List.mem_append_left _ (cl a ha h1.1 h2 y hy)
              · exact absurd (List.mem_singleton.mp ha) h1.2
            · rcases Nat.lt_succ_iff_lt_or_eq.mp hi with hi | rfl
              · exact List.mem_append_left _ (dn i w hi hw)
              · rw [hz] at hw; cases hw; simp
        · rintro env ⟨ks, ws, v5, rfl, rc, hx, cl, dn, hm⟩
          refine ⟨_, hm, ks, ws, _, _, rfl, rc, fun z hz h1 y hy => ?_, rfl, by omega⟩
          by_cases e : z = x
          · subst e
            obtain ⟨i, hi, ei⟩ := List.getElem_of_mem (adj_near.mpr hy)
            exact dn i y (by rw [List.length_append, List.length_map, List.length_map, ← List.length_append]; exact hi) (by rw [← ei]; exact List.getElem?_eq_getElem hi)
          · exact cl z hz h1 e y hy
      · have e : ws = [] := by
          cases ws with
          | nil => rfl
          | cons a ws => exact absurd (decide_eq_true (by simp)) e
        subst e
        exact ⟨ks, v4, v5, rfl, rc, fun x hx y hy => cl x hx (by simp) y hy⟩
    rintro env ⟨ks, v4, v5, rfl, rc, cl⟩
    simp only [sNewK, sNewK1, sPutK, xInK, xGetK, xSortD, xSum, xSumV, sPopL, sToOO, sAppOO, sForO, Dt.dk.injEq, xSortP, sExp, sNext, sSeq, sSet, sSetO, sRet, sRetO, sRetV, sIf, sFrz, sApp, xVar, xC, xVarB, xVarQ, xVarL, xSeq, xLst, x2, xB, xNot, xAnd, xNeg, xIf, xChain, xIx, xNil, xCons, xTup, xDisp, xLen, xTuple, xCat, xCatT, xCall, xCallO, xRange1, xAll, xPn, xPs, xIndex, xSlice, gN, gN2, rdI0, rdI, rdEq, rdNe, rdIn, reduceCtorEq, false_or, or_false, false_and, exists_false, exists_const, frz_d, frz_o, seqS, seq_l, seq_t, seq_scr, startD, capD, List.map_cons, List.map_nil, List.length_cons, List.length_nil, List.getElem?_cons_zero, List.getElem?_cons_succ, List.set_cons_zero, List.set_cons_succ, List.replicate_succ, List.replicate_zero, List.cons_append, List.nil_append, Option.some.injEq, Dt.d.injEq, Dt.o.injEq, PyData.int.injEq, PyData.bool.injEq, PyData.tuple.injEq, PyData.list.injEq, exists_eq_left, exists_eq_left', exists_eq_right, exists_and_left, true_and, and_true, ne_eq, not_false_eq_true, Option.getD_some, Option.getD_none, Nat.reduceAdd, Nat.reduceSub, Nat.reduceLeDiff, Nat.zero_le, Nat.le_refl]
    refine ⟨ks, trK_keys ks, by have := rc.len; have := sp.n16; omega, fun ns h1 h2 => ?_⟩
    rw [pc_is rc.nd (rc.all hp sp.inr cl) h1 h2]
    exact hR
end
section
variable {P : Program} {w : World} {K : PySem.W.Frag} {mg : Str → Option Value} {base : Heap}
theorem scPs : FnScope ["space", "found", "seen", "point", "piece", "member"] ["space"] (defScope s_pieces) := ⟨rfl, rfl, rfl, by decide +kernel, rfl, by decide +kernel, by decide +kernel⟩
theorem ok_Ps {f : Addr} {fd : FuncData} (F : Fun K "pieces" "pieces" s_pieces f fd) (T : Txt K mg) (GPc : Fn P w K mg base "piece_of" 2 ["space", "point"] (spG K Ppc)) :
    FnOk P w K mg base CX0 3 f fd ["space"] (spG K Ppcs) := by
  refine F.okG scPs (fun ds RS h => ?_) (fun cdv A outer s H E hr => (dss_cons (ds_setO 1 (fun _ => scPs.nd) (do_lst da_nil))
      (DSs.toOO 1 (dss_cons (ds_newK 2 (fun _ => scPs.nd))
      (dss_cons (ds_for (fun _ => PassesOwn.never) (di_range1 (de_ix (dq_var 0) (de_int).bw).bw (fun _ => T.range)) (dg_name 3 (fun _ => scPs.nd)) (dss_one (ds_if (dt_notinK 2 (fun _ => room_u hr (by decide)) (de_var 3)) (dss_cons (ds_setO 4 (fun _ => scPs.nd) (do_call GPc (fun _ => hr.mono (by decide)) (da_cons (de_var 0) (da_cons (de_var 3) da_nil))))
      (dss_cons (ds_forO 4 (fun _ => PassesOwn.never) (dg_name 5 (fun _ => scPs.nd)) (dsk_putK 4 2 (fun _ => room_u hr (by decide)) (de_var 5) (de_bl)))
      (dss_one (ds_appOO 1 4)))) dss_nil)))
      (dss_one (ds_retV 1))))))) (fun ds RS h => ?_)
  · obtain ⟨n, ps, rfl, _⟩ := h; rfl
  · obtain ⟨n, ps, rfl, sp, hR⟩ := h
    have n16 := sp.n16
    refine seq_d (fun env => env = [.d (spD n ps), .o [], .un, .un, .un, .un]) (fun N hN => ?_) ?_
    · simp only [sNewK, sNewK1, sPutK, xInK, xGetK, xSortD, xSum, xSumV, sPopL, sToOO, sAppOO, sForO, Dt.dk.injEq, xSortP, sExp, sNext, sSeq, sSet, sSetO, sRet, sRetO, sRetV, sIf, sFrz, sApp, xVar, xC, xVarB, xVarQ, xVarL, xSeq, xLst, x2, xB, xNot, xAnd, xNeg, xIf, xChain, xIx, xNil, xCons, xTup, xDisp, xLen, xTuple, xCat, xCatT, xCall, xCallO, xRange1, xAll, xPn, xPs, xIndex, xSlice, gN, gN2, rdI0, rdI, rdEq, rdNe, rdIn, reduceCtorEq, false_or, or_false, false_and, exists_false, exists_const, frz_d, frz_o, seqS, seq_l, seq_t, seq_scr, startD, capD, List.map_cons, List.map_nil, List.length_cons, List.length_nil, List.getElem?_cons_zero, List.getElem?_cons_succ, List.set_cons_zero, List.set_cons_succ, List.replicate_succ, List.replicate_zero, List.cons_append, List.nil_append, Option.some.injEq, Dt.d.injEq, Dt.o.injEq, PyData.int.injEq, PyData.bool.injEq, PyData.tuple.injEq, PyData.list.injEq, exists_eq_left, exists_eq_left', exists_eq_right, exists_and_left, true_and, and_true, ne_eq, not_false_eq_true, Option.getD_some, Option.getD_none, Nat.reduceAdd, Nat.reduceSub, Nat.reduceLeDiff, Nat.zero_le, Nat.le_refl]
      exact hN _ rfl
    rintro env rfl
    refine ⟨rfl, ?_⟩
    refine seq_d (fun env => env = [.d (spD n ps), .oo [], .dk (trK []), .un, .un, .un]) (fun N hN => ?_) ?_
    · simp only [sNewK, sNewK1, sPutK, xInK, xGetK, xSortD, xSum, xSumV, sPopL, sToOO, sAppOO, sForO, Dt.dk.injEq, xSortP, sExp, sNext, sSeq, sSet, sSetO, sRet, sRetO, sRetV, sIf, sFrz, sApp, xVar, xC, xVarB, xVarQ, xVarL, xSeq, xLst, x2, xB, xNot, xAnd, xNeg, xIf, xChain, xIx, xNil, xCons, xTup, xDisp, xLen, xTuple, xCat, xCatT, xCall, xCallO, xRange1, xAll, xPn, xPs, xIndex, xSlice, gN, gN2, rdI0, rdI, rdEq, rdNe, rdIn, reduceCtorEq, false_or, or_false, false_and, exists_false, exists_const, frz_d, frz_o, seqS, seq_l, seq_t, seq_scr, startD, capD, List.map_cons, List.map_nil, List.length_cons, List.length_nil, List.getElem?_cons_zero, List.getElem?_cons_succ, List.set_cons_zero, List.set_cons_succ, List.replicate_succ, List.replicate_zero, List.cons_append, List.nil_append, Option.some.injEq, Dt.d.injEq, Dt.o.injEq, PyData.int.injEq, PyData.bool.injEq, PyData.tuple.injEq, PyData.list.injEq, exists_eq_left, exists_eq_left', exists_eq_right, exists_and_left, true_and, and_true, ne_eq, not_false_eq_true, Option.getD_some, Option.getD_none, Nat.reduceAdd, Nat.reduceSub, Nat.reduceLeDiff, Nat.zero_le, Nat.le_refl]
      exact hN _ rfl
    rintro env rfl
    refine seq_d (fun env => ∃ d v3 v4 v5, env = [.d (spD n ps), .oo ((cmF n ps n).map fun l => l.map PyData.int), d, v3, v4, v5]) (fun N hN => ?_) ?_
    · refine ⟨_, _, rfl, rfl, _, _, rfl, at0 _ _, _, rfl, by omega, by omega, fun k env => ∃ ks v3 v4 v5, env = [.d (spD n ps), .oo ((cmF n ps k).map fun l => l.map PyData.int), .dk (trK ks), v3, v4, v5] ∧ Sn n ps k ks, ⟨[], _, _, _, rfl, Sn.zero⟩, ?_, ?_⟩
      · rintro k y env hy ⟨ks, v3, v4, v5, rfl, sn⟩
        obtain ⟨hk, rfl⟩ := ints_get hy
        rw [Int.zero_add]
        have hk : k < n := hk
        have hkn : (k : Int) ∈ rngI n := rngI_mem.mpr ⟨by omega, by omega⟩
        simp only [sNewK, sNewK1, sPutK, xInK, xGetK, xSortD, xSum, xSumV, sPopL, sToOO, sAppOO, sForO, Dt.dk.injEq, xSortP, sExp, sNext, sSeq, sSet, sSetO, sRet, sRetO, sRetV, sIf, sFrz, sApp, xVar, xC, xVarB, xVarQ, xVarL, xSeq, xLst, x2, xB, xNot, xAnd, xNeg, xIf, xChain, xIx, xNil, xCons, xTup, xDisp, xLen, xTuple, xCat, xCatT, xCall, xCallO, xRange1, xAll, xPn, xPs, xIndex, xSlice, gN, gN2, rdI0, rdI, rdEq, rdNe, rdIn, reduceCtorEq, false_or, or_false, false_and, exists_false, exists_const, frz_d, frz_o, seqS, seq_l, seq_t, seq_scr, startD, capD, List.map_cons, List.map_nil, List.length_cons, List.length_nil, List.getElem?_cons_zero, List.getElem?_cons_succ, List.set_cons_zero, List.set_cons_succ, List.replicate_succ, List.replicate_zero, List.cons_append, List.nil_append, Option.some.injEq, Dt.d.injEq, Dt.o.injEq, PyData.int.injEq, PyData.bool.injEq, PyData.tuple.injEq, PyData.list.injEq, exists_eq_left, exists_eq_left', exists_eq_right, exists_and_left, true_and, and_true, ne_eq, not_false_eq_true, Option.getD_some, Option.getD_none, Nat.reduceAdd, Nat.reduceSub, Nat.reduceLeDiff, Nat.zero_le, Nat.le_refl]
        rw [trK_get]
        by_cases hs : (k : Int) ∈ ks
        · refine iteN (by rw [decide_eq_true hs]; rfl) ⟨ks, _, _, _, by rw [cm_no (sn.not hs)], sn.old hs⟩
        · rw [decide_eq_false hs]
          have il := sn.isL sp.inr hkn hs
          refine ⟨n, ps, k, rfl, sp, hkn, _, rfl, ?_⟩
          refine ⟨fun j env => ∃ ks' v5, env = [.d (spD n ps), .oo ((cmF n ps k).map fun l => l.map PyData.int), .dk (trK ks'), .d (.int k), .o ((pcF n ps k).map PyData.int), v5] ∧ ks'.Nodup ∧ (∀ x ∈ ks', x ∈ rngI n) ∧ ∀ x, x ∈ ks' ↔ x ∈ ks ∨ ∃ i : Nat, i < j ∧ (pcF n ps k)[i]? = some x, ⟨ks, _, rfl, sn.nd, fun x hx => ((sn.mem x).mp hx).1, fun x => ⟨.inl, fun z => z.elim (fun z => z) fun ⟨i, hi, _⟩ => absurd hi (Nat.not_lt_zero _)⟩⟩, ?_, ?_, ?_⟩
          · rintro j env ⟨ks', v5, rfl, _⟩
            rfl
          · rintro j y env hy ⟨ks', v5, rfl, nd, inn, hm⟩
            rw [List.getElem?_map] at hy
            obtain ⟨z, hz, rfl⟩ := Option.map_eq_some_iff.mp hy
            have hzn := (pc_mem.mp (List.mem_of_getElem? hz)).1
            have lk : ks'.length ≤ n := by have := sub_len nd inn; rwa [rngI_len] at this
            refine ⟨_, rfl, by rw [trK_len]; omega, _, rfl, _, rfl, ?_⟩
            have step : ∀ x, (x ∈ ks ∨ ∃ i : Nat, i < j + 1 ∧ (pcF n ps k)[i]? = some x) ↔ (x ∈ ks ∨ ∃ i : Nat, i < j ∧ (pcF n ps k)[i]? = some x) ∨ x = z := fun x => by
              constructor
              · rintro (h | ⟨i, hi, he⟩)
                · exact .inl (.inl h)
                · by_cases e : i = j
                  · subst e; rw [hz] at he; cases he; exact .inr rfl
                  · exact .inl (.inr ⟨i, by omega, he⟩)
              · rintro ((h | ⟨i, hi, he⟩) | rfl)
                · exact .inl h
                · exact .inr ⟨i, by omega, he⟩
                · exact .inr ⟨j, by omega, hz⟩
            by_cases hk' : z ∈ ks'
            · refine ⟨ks', _, by rw [trK_keep hk']; rfl, nd, inn, fun x => ?_⟩
              rw [step, ← hm]
              exact ⟨.inl, fun h => h.elim (fun h => h) fun h => by rw [h]; exact hk'⟩
            · refine ⟨ks' ++ [z], _, by rw [trK_put hk']; rfl, ?_, fun x hx => ?_, fun x => ?_⟩
              · rw [List.nodup_append]
                exact ⟨nd, by simp, fun a ha b hb e => hk' (by rw [List.mem_singleton.mp hb] at e; rw [← e]; exact ha)⟩
              · rcases List.mem_append.mp hx with hx | hx
                · exact inn x hx
                · rw [List.mem_singleton.mp hx]; exact hzn
              · rw [step, ← hm, List.mem_append, List.mem_singleton]
          · rintro env ⟨ks', v5, rfl, nd, inn, hm⟩
            have cl := cm_len (n := n) (ps := ps) k
            refine ⟨_, rfl, _, rfl, by rw [List.length_map]; omega, ks', _, _, _, by rw [cm_yes il, List.map_append]; rfl, sn.new nd fun x => ?_⟩
            rw [hm]
            refine or_congr_right ⟨fun ⟨i, _, he⟩ => List.mem_of_getElem? he, fun h => ?_⟩
            obtain ⟨i, hi, e⟩ := List.getElem_of_mem h
            exact ⟨i, by rw [List.length_map]; exact hi, by rw [← e]; exact List.getElem?_eq_getElem hi⟩
      · rintro env ⟨ks, v3, v4, v5, rfl, _⟩
        rw [ints_rng, List.length_map, rngI_len, Int.toNat_natCast]
        exact hN _ ⟨_, _, _, _, rfl⟩
    rintro env ⟨d, v3, v4, v5, rfl⟩
    simp only [sNewK, sNewK1, sPutK, xInK, xGetK, xSortD, xSum, xSumV, sPopL, sToOO, sAppOO, sForO, Dt.dk.injEq, xSortP, sExp, sNext, sSeq, sSet, sSetO, sRet, sRetO, sRetV, sIf, sFrz, sApp, xVar, xC, xVarB, xVarQ, xVarL, xSeq, xLst, x2, xB, xNot, xAnd, xNeg, xIf, xChain, xIx, xNil, xCons, xTup, xDisp, xLen, xTuple, xCat, xCatT, xCall, xCallO, xRange1, xAll, xPn, xPs, xIndex, xSlice, gN, gN2, rdI0, rdI, rdEq, rdNe, rdIn, reduceCtorEq, false_or, or_false, false_and, exists_false, exists_const, frz_d, frz_o, seqS, seq_l, seq_t, seq_scr, startD, capD, List.map_cons, List.map_nil, List.length_cons, List.length_nil, List.getElem?_cons_zero, List.getElem?_cons_succ, List.set_cons_zero, List.set_cons_succ, List.replicate_succ, List.replicate_zero, List.cons_append, List.nil_append, Option.some.injEq, Dt.d.injEq, Dt.o.injEq, PyData.int.injEq, PyData.bool.injEq, PyData.tuple.injEq, PyData.list.injEq, exists_eq_left, exists_eq_left', exists_eq_right, exists_and_left, true_and, and_true, ne_eq, not_false_eq_true, Option.getD_some, Option.getD_none, Nat.reduceAdd, Nat.reduceSub, Nat.reduceLeDiff, Nat.zero_le, Nat.le_refl]
    exact hR
end
def lamP : Pos := match defBody s_from_below with
  | [.Return (some (.Call _ _ [⟨_, .Lambda _ _ _ p, _⟩] _)) _] => p
  | _ => ⟨0, 0, 0, 0⟩
def lamS : Scope := match defBody s_from_below with
  | [.Return (some (.Call _ _ [⟨_, .Lambda _ _ sc _, _⟩] _)) _] => sc
  | _ => { kind := .function, names := [], isGenerator := false, isCoroutine := false }
abbrev lamQ : Str := ("from_below" : Str) ++ ".<locals>." ++ "<lambda>"
theorem only_free {names : List (Str × NameKind)} {y : Str} (h : (names.all fun p => p.2 != .free || p.1 == y) = true) : ∀ z, names.lookup z = some .free → z = y := fun z e => by
  have := List.all_eq_true.mp h _ (PySem.mem_of_lookup e)
  simpa using this
theorem scLam : LamSc "point" "space" lamS := ⟨rfl, rfl, rfl, by decide +kernel, rfl, rfl, only_free (by decide +kernel)⟩
theorem room_in2 {k : Nat} {A : Around} (r : Room (k + 1) A) : Room k A.in1.in1 := ⟨r.hd, by have := r.dp; show A.depth + 3 * k + 5 < _; omega, by have := r.un; show A.units + 1 + 1 + 16 * k + 200 < _; omega⟩
section
variable {P : Program} {w : World} {K : PySem.W.Frag} {mg : Str → Option Value} {base : Heap}
theorem scFb : FnScope ["space"] ["space"] (defScope s_from_below) := ⟨rfl, rfl, rfl, by decide +kernel, rfl, by decide +kernel, by decide +kernel⟩
theorem ok_Fb {f c Tb : Addr} {fd : FuncData} (F : Fun K "from_below" "from_below" s_from_below f fd) (hc : fd.code = .ref c) (T : Txt K mg) (C : PySem.W.CodeHd base c Tb) (bm : BMod base mg) (GPu : Fn P w K mg base "points_under" 1 ["space", "point"] (spG K Ppu)) :
    FnOk P w K mg base CX0 5 f fd ["space"] (spT lamP lamQ Tb K Pfb) := by
  refine F.okP scFb (fun ds RS h => ?_) (fun cdv A outer s H E hcd hr => dssT_one (dsT_retLam (k := 1) (iy := 0) (c := c) (cy := fun _ => s.heap.objs.size + 1) scLam (da_cons (de_ix (dq_var 0) (de_int).bw) da_nil)
    (de_len ((do_call GPu (fun z => z.2) (da_cons (de_var 1) (da_cons (de_var 0) da_nil))).q) (fun _ => T.len)) (fun _ => (room_in2 hr).mono (by decide)) (fun _ => hcd.symm.trans hc) (fun _ => C) (fun _ => bm) (fun _ => T.sorted) (fun _ => T.range) (fun _ => rfl) (fun _ => rfl) (fun _ => rfl) (fun _ => rfl) (fun _ => .inl rfl)
    (fun _ _ _ _ _ => rfl) (fun _ => rfl) (fun _ => rfl) (fun _ => rfl) (fun _ => rfl) (fun _ => rfl))) (fun ds RS h => ?_)
  · obtain ⟨n, ps, rfl, _⟩ := h; rfl
  · obtain ⟨n, ps, rfl, sp, hR⟩ := h
    refine ⟨_, _, rfl, rfl, _, _, rfl, at0 _ _, n, spD n ps, fun x => (gU ps x : Int), rfl, sp.n1, by have := sp.n16; omega, rfl, fun i hi => ?_, fun ns h1 h2 => hR ns h1 (h2.imp fun h => Int.ofNat_le.mp h)⟩
    refine ⟨_, rfl, _, rfl, n, ps, i, rfl, _, rfl, ?_⟩
    show PyData.int ((((pu ps i).map PyData.int).length : Nat) : Int) = .int ((pu ps i).length : Nat)
    rw [List.length_map]
end
section
variable {P : Program} {w : World} {K : PySem.W.Frag} {mg : Str → Option Value} {base : Heap}
theorem scEc : FnScope ["space", "parts", "point"] ["space"] (defScope s_even_count) := ⟨rfl, rfl, rfl, by decide +kernel, rfl, by decide +kernel, by decide +kernel⟩
theorem ok_Ec {f Tb : Addr} {fd : FuncData} {c0 : Addr} (F : Fun K "even_count" "even_count" s_even_count f fd) (T : Txt K mg) (Z : XT K mg c0) (GFb : FnT P w K mg base "from_below" 5 ["space"] lamP lamQ Tb (Pfb)) (GPu : Fn P w K mg base "points_under" 1 ["space", "point"] (spG K Ppu)) :
    FnOk P w K mg base CX0 6 f fd ["space"] (spT lamP lamQ Tb K Pec) := by
  refine F.okP scEc (fun ds RS h => ?_) (fun cdv A outer s H E hcd hr => (dssT_cons (DS.toT (ds_newK 1 (fun _ => scEc.nd)))
      (dssT_cons (dsT_for (fun _ => PassesOwn.never) GFb (fun _ => hr.mono (by decide)) (da_cons (de_var 0) da_nil) (dg_name 2 (fun _ => scEc.nd)) (dss_one (ds_putK 1 (fun _ => room_u hr (by decide)) (de_var 2) (de_bin od_sub (de_int).bw (de_sum (do_lc (N' := ["a", "parts"]) (fun _ => (.own (.cap 1 rfl rfl rfl .nil))) (di_seq ((do_call GPu (fun _ => hr.mono (by decide)) (da_cons (de_var 0) (da_cons (de_var 2) da_nil))).ew)) (dg_name 0 (fun _ => (by decide +kernel : (["a", "parts"] : List Str).Nodup))) dif_nil (de_getK 1 (fun _ => room_u hr (by decide)) (de_var 0))).l (fun _ => T.sum)).bw))))
      (DSs.toT (dss_one (ds_ret (de_sumV 1 (fun _ => T.sum)))))))) (fun ds RS h => ?_)
  · obtain ⟨n, ps, rfl, _⟩ := h; rfl
  · obtain ⟨n, ps, rfl, sp, hR⟩ := h
    have n16 := sp.n16
    refine seq_d (fun env => env = [.d (spD n ps), .dk [], .un]) (fun N hN => ?_) ?_
    · simp only [sNewK, sNewK1, sPutK, xInK, xGetK, xSortD, xSum, xSumV, sPopL, sToOO, sAppOO, sForO, Dt.dk.injEq, xSortP, sExp, sNext, sSeq, sSet, sSetO, sRet, sRetO, sRetV, sIf, sFrz, sApp, xVar, xC, xVarB, xVarQ, xVarL, xSeq, xLst, x2, xB, xNot, xAnd, xNeg, xIf, xChain, xIx, xNil, xCons, xTup, xDisp, xLen, xTuple, xCat, xCatT, xCall, xCallO, xRange1, xAll, xPn, xPs, xIndex, xSlice, gN, gN2, rdI0, rdI, rdEq, rdNe, rdIn, reduceCtorEq, false_or, or_false, false_and, exists_false, exists_const, frz_d, frz_o, seqS, seq_l, seq_t, seq_scr, startD, capD, List.map_cons, List.map_nil, List.length_cons, List.length_nil, List.getElem?_cons_zero, List.getElem?_cons_succ, List.set_cons_zero, List.set_cons_succ, List.replicate_succ, List.replicate_zero, List.cons_append, List.nil_append, Option.some.injEq, Dt.d.injEq, Dt.o.injEq, PyData.int.injEq, PyData.bool.injEq, PyData.tuple.injEq, PyData.list.injEq, exists_eq_left, exists_eq_left', exists_eq_right, exists_and_left, true_and, and_true, ne_eq, not_false_eq_true, Option.getD_some, Option.getD_none, Nat.reduceAdd, Nat.reduceSub, Nat.reduceLeDiff, Nat.zero_le, Nat.le_refl]
      exact hN _ rfl
    rintro env rfl
    refine seq_d (fun env => ∃ ns v2, env = [.d (spD n ps), .dk (ptK n ps ns), v2] ∧ ns.Perm (rngI n)) (fun N hN => ?_) ?_
    · refine ⟨_, rfl, n, ps, rfl, sp, fun ns h1 h2 => ⟨_, rfl, fun j env => ∃ v2, env = [.d (spD n ps), .dk (ptK n ps (ns.take j)), v2], ⟨_, rfl⟩, ?_, ?_⟩⟩
      · rintro j y env hy ⟨v2, rfl⟩
        rw [List.getElem?_map] at hy
        obtain ⟨p, hp, rfl⟩ := Option.map_eq_some_iff.mp hy
        have hpn : p ∈ rngI n := h1.mem_iff.mp (List.mem_of_getElem? hp)
        have nd := h1.nodup_iff.mpr (rngI_nd n)
        simp only [sNewK, sNewK1, sPutK, xInK, xGetK, xSortD, xSum, xSumV, sPopL, sToOO, sAppOO, sForO, Dt.dk.injEq, xSortP, sExp, sNext, sSeq, sSet, sSetO, sRet, sRetO, sRetV, sIf, sFrz, sApp, xVar, xC, xVarB, xVarQ, xVarL, xSeq, xLst, x2, xB, xNot, xAnd, xNeg, xIf, xChain, xIx, xNil, xCons, xTup, xDisp, xLen, xTuple, xCat, xCatT, xCall, xCallO, xRange1, xAll, xPn, xPs, xIndex, xSlice, gN, gN2, rdI0, rdI, rdEq, rdNe, rdIn, reduceCtorEq, false_or, or_false, false_and, exists_false, exists_const, frz_d, frz_o, seqS, seq_l, seq_t, seq_scr, startD, capD, List.map_cons, List.map_nil, List.length_cons, List.length_nil, List.getElem?_cons_zero, List.getElem?_cons_succ, List.set_cons_zero, List.set_cons_succ, List.replicate_succ, List.replicate_zero, List.cons_append, List.nil_append, Option.some.injEq, Dt.d.injEq, Dt.o.injEq, PyData.int.injEq, PyData.bool.injEq, PyData.tuple.injEq, PyData.list.injEq, exists_eq_left, exists_eq_left', exists_eq_right, exists_and_left, true_and, and_true, ne_eq, not_false_eq_true, Option.getD_some, Option.getD_none, Nat.reduceAdd, Nat.reduceSub, Nat.reduceLeDiff, Nat.zero_le, Nat.le_refl, xLC]
        refine ⟨n, ps, p, rfl, _, rfl, Gf (pu ps p) PyData.int (fun _ => true) (fun a => .int (wU n ps a)), fun y hy => ?_, fun o ho => ?_⟩
        · obtain ⟨a, ha, rfl⟩ := List.mem_map.mp hy
          exact ⟨a, rfl, _, ptK_get (below_at sp h1 h2 hp ha), Gf.keep ha rfl rfl⟩
        · have e : 1 - ((pu ps p).map (wU n ps)).sum = wU n ps p := (wU_eq sp.inr sp.ord sp.nd hpn).symm
          have nin : p ∉ ns.take j := fun z => by
            obtain ⟨i, hi, e⟩ := List.mem_take_iff_getElem.mp z
            have hi2 : i < ns.length := by omega
            have := nodup_at nd (List.getElem?_eq_some_iff.mpr ⟨hi2, e⟩) hp
            omega
          have ln : ns.length = n := by rw [h1.length_eq, rngI_len]
          refine ⟨(pu ps p).map (wU n ps), by rw [Gf.all int_inj ho, List.map_map]; rfl, by rw [ptK_len, List.length_take]; omega, .d (.int p), ?_⟩
          rw [e, ptK_put nin, List.take_add_one, hp]
          rfl
      · rintro env ⟨v2, rfl⟩
        rw [List.length_map, List.take_length]
        exact hN _ ⟨ns, _, rfl, h1⟩
    rintro env ⟨ns, v2, rfl, h1⟩
    simp only [sNewK, sNewK1, sPutK, xInK, xGetK, xSortD, xSum, xSumV, sPopL, sToOO, sAppOO, sForO, Dt.dk.injEq, xSortP, sExp, sNext, sSeq, sSet, sSetO, sRet, sRetO, sRetV, sIf, sFrz, sApp, xVar, xC, xVarB, xVarQ, xVarL, xSeq, xLst, x2, xB, xNot, xAnd, xNeg, xIf, xChain, xIx, xNil, xCons, xTup, xDisp, xLen, xTuple, xCat, xCatT, xCall, xCallO, xRange1, xAll, xPn, xPs, xIndex, xSlice, gN, gN2, rdI0, rdI, rdEq, rdNe, rdIn, reduceCtorEq, false_or, or_false, false_and, exists_false, exists_const, frz_d, frz_o, seqS, seq_l, seq_t, seq_scr, startD, capD, List.map_cons, List.map_nil, List.length_cons, List.length_nil, List.getElem?_cons_zero, List.getElem?_cons_succ, List.set_cons_zero, List.set_cons_succ, List.replicate_succ, List.replicate_zero, List.cons_append, List.nil_append, Option.some.injEq, Dt.d.injEq, Dt.o.injEq, PyData.int.injEq, PyData.bool.injEq, PyData.tuple.injEq, PyData.list.injEq, exists_eq_left, exists_eq_left', exists_eq_right, exists_and_left, true_and, and_true, ne_eq, not_false_eq_true, Option.getD_some, Option.getD_none, Nat.reduceAdd, Nat.reduceSub, Nat.reduceLeDiff, Nat.zero_le, Nat.le_refl]
    refine ⟨ns.map (wU n ps), ptK_vals ns, ?_⟩
    have : (ns.map (wU n ps)).sum = ecF n ps := sm_perm h1 (wU n ps)
    rw [this]
    exact hR
end
section
variable {P : Program} {w : World} {K : PySem.W.Frag} {mg : Str → Option Value} {base : Heap}
theorem scRf : FnScope ["many"] ["many"] (defScope s_refuse_too_many) := ⟨rfl, rfl, rfl, by decide +kernel, rfl, by decide +kernel, by decide +kernel⟩
theorem ok_Rf {f : Addr} {fd : FuncData} {c0 : Addr} (F : Fun K "refuse_too_many" "refuse_too_many" s_refuse_too_many f fd) (T : Txt K mg) (Z : XT K mg c0)  :
    FnOk P w K mg base CX0 1 f fd ["many"] (spG K Pref) := by
  refine F.okG scRf (fun ds RS h => ?_) (fun cdv A outer s H E hr => (dss_one (ds_if (dt_not (dt_chain od_le od_le (de_int).bw (db_var 0) (de_gint (fun _ => Z.g_MOST_POINTS)).bw)) (dss_one (ds_never)) dss_nil))) (fun ds RS h => ?_)
  · obtain ⟨m, rfl, _⟩ := h; rfl
  · obtain ⟨m, rfl, h1, h2, hR⟩ := h
    simp only [sNewK, sNewK1, sPutK, xInK, xGetK, xSortD, xSum, xSumV, sPopL, sToOO, sAppOO, sForO, Dt.dk.injEq, xSortP, sExp, sNext, sSeq, sSet, sSetO, sRet, sRetO, sRetV, sIf, sFrz, sApp, xVar, xC, xVarB, xVarQ, xVarL, xSeq, xLst, x2, xB, xNot, xAnd, xNeg, xIf, xChain, xIx, xNil, xCons, xTup, xDisp, xLen, xTuple, xCat, xCatT, xCall, xCallO, xRange1, xAll, xPn, xPs, xIndex, xSlice, gN, gN2, rdI0, rdI, rdEq, rdNe, rdIn, reduceCtorEq, false_or, or_false, false_and, exists_false, exists_const, frz_d, frz_o, seqS, seq_l, seq_t, seq_scr, startD, capD, List.map_cons, List.map_nil, List.length_cons, List.length_nil, List.getElem?_cons_zero, List.getElem?_cons_succ, List.set_cons_zero, List.set_cons_succ, List.replicate_succ, List.replicate_zero, List.cons_append, List.nil_append, Option.some.injEq, Dt.d.injEq, Dt.o.injEq, PyData.int.injEq, PyData.bool.injEq, PyData.tuple.injEq, PyData.list.injEq, exists_eq_left, exists_eq_left', exists_eq_right, exists_and_left, true_and, and_true, ne_eq, not_false_eq_true, Option.getD_some, Option.getD_none, Nat.reduceAdd, Nat.reduceSub, Nat.reduceLeDiff, Nat.zero_le, Nat.le_refl]
    rw [if_pos (decide_eq_true h1)]
    exact iteN (by rw [decide_eq_true h2]; rfl) hR
end
section
variable {P : Program} {w : World} {K : PySem.W.Frag} {mg : Str → Option Value} {base : Heap}
theorem scBs : FnScope ["one", "other", "many", "behind"] ["one", "other"] (defScope s_beside) := ⟨rfl, rfl, rfl, by decide +kernel, rfl, by decide +kernel, by decide +kernel⟩
theorem ok_Bs {f : Addr} {fd : FuncData} (F : Fun K "beside" "beside" s_beside f fd) (T : Txt K mg) (GRf : Fn P w K mg base "refuse_too_many" 1 ["many"] (spG K Pref)) :
    FnOk P w K mg base CX0 2 f fd ["one", "other"] (spG K Pbes) := by
  refine F.okG scBs (fun ds RS h => ?_) (fun cdv A outer s H E hr => (dss_cons (ds_set 2 (fun _ => scBs.nd) (de_bin od_add (de_ix (dq_var 0) (de_int).bw).bw (de_ix (dq_var 1) (de_int).bw).bw))
      (dss_cons (ds_expr (de_call GRf (fun _ => hr.mono (by decide)) (da_cons (de_var 2) da_nil)))
      (dss_cons (ds_setlc 3 (fun _ => scBs.nd) (N' := ["a", "b", "one"]) (fun _ => (.own (.own (.cap 0 rfl rfl rfl .nil)))) (di_seq (de_ix (dq_var 1) (de_int).bw)) (dg_tup2 0 1 (fun _ => (by decide +kernel : (["a", "b", "one"] : List Str).Nodup))) dif_nil (de_tup (da_cons (de_bin od_add (db_var 0) (de_ix (dq_var 2) (de_int).bw).bw) (da_cons (de_bin od_add (db_var 1) (de_ix (dq_var 2) (de_int).bw).bw) da_nil))))
      (DSs.frz 3 (dss_one (ds_ret (de_tup (da_cons (de_var 2) (da_cons (de_catT (de_ix (dq_var 0) (de_int).bw) (de_tupleV 3 (fun _ => T.tuple))) da_nil)))))))))) (fun ds RS h => ?_)
  · obtain ⟨n, m, ps, qs, rfl, _⟩ := h; rfl
  · obtain ⟨n, m, ps, qs, rfl, hl, h1, h2, hR⟩ := h
    simp only [sNewK, sNewK1, sPutK, xInK, xGetK, xSortD, xSum, xSumV, sPopL, sToOO, sAppOO, sForO, Dt.dk.injEq, xSortP, sExp, sNext, sSeq, sSet, sSetO, sRet, sRetO, sRetV, sIf, sFrz, sApp, xVar, xC, xVarB, xVarQ, xVarL, xSeq, xLst, x2, xB, xNot, xAnd, xNeg, xIf, xChain, xIx, xNil, xCons, xTup, xDisp, xLen, xTuple, xCat, xCatT, xCall, xCallO, xRange1, xAll, xPn, xPs, xIndex, xSlice, gN, gN2, rdI0, rdI, rdEq, rdNe, rdIn, reduceCtorEq, false_or, or_false, false_and, exists_false, exists_const, frz_d, frz_o, seqS, seq_l, seq_t, seq_scr, startD, capD, List.map_cons, List.map_nil, List.length_cons, List.length_nil, List.getElem?_cons_zero, List.getElem?_cons_succ, List.set_cons_zero, List.set_cons_succ, List.replicate_succ, List.replicate_zero, List.cons_append, List.nil_append, Option.some.injEq, Dt.d.injEq, Dt.o.injEq, PyData.int.injEq, PyData.bool.injEq, PyData.tuple.injEq, PyData.list.injEq, exists_eq_left, exists_eq_left', exists_eq_right, exists_and_left, true_and, and_true, ne_eq, not_false_eq_true, Option.getD_some, Option.getD_none, Nat.reduceAdd, Nat.reduceSub, Nat.reduceLeDiff, Nat.zero_le, Nat.le_refl, xLC, seq_sp, at0, at1]
    refine ⟨n + m, rfl, h1, h2, _, rfl, Gf qs pD (fun _ => true) (fun q => pD (shP2 n q)), fun y hy => ?_, fun o ho => ?_⟩
    · obtain ⟨q, hq, rfl⟩ := List.mem_map.mp hy
      exact ⟨_, _, rfl, _, rfl, _, rfl, Gf.keep hq rfl rfl⟩
    · rw [Gf.all pD_inj ho]
      refine ⟨by rw [List.length_map, List.length_map]; omega, ?_⟩
      unfold spD at hR
      rw [List.map_append, List.map_map] at hR
      exact hR
end
section
variable {P : Program} {w : World} {K : PySem.W.Frag} {mg : Str → Option Value} {base : Heap}
theorem scTu : FnScope ["space"] ["space"] (defScope s_turned) := ⟨rfl, rfl, rfl, by decide +kernel, rfl, by decide +kernel, by decide +kernel⟩
theorem ok_Tu {f : Addr} {fd : FuncData} (F : Fun K "turned" "turned" s_turned f fd) (T : Txt K mg)  :
    FnOk P w K mg base CX0 1 f fd ["space"] (spG K Pturn) := by
  refine F.okG scTu (fun ds RS h => ?_) (fun cdv A outer s H E hr => (dss_one (ds_ret (de_tup (da_cons (de_ix (dq_var 0) (de_int).bw) (da_cons (de_tuple (do_sortP (do_lc (N' := ["a", "b"]) (fun _ => (.own (.own .nil))) (di_seq (de_ix (dq_var 0) (de_int).bw)) (dg_tup2 0 1 (fun _ => (by decide +kernel : (["a", "b"] : List Str).Nodup))) dif_nil (de_tup (da_cons (de_var 1) (da_cons (de_var 0) da_nil)))).l (fun _ => T.sorted) (fun _ => room_u hr (by decide))) (fun _ => T.tuple)) da_nil)))))) (fun ds RS h => ?_)
  · obtain ⟨n, ps, rfl, _⟩ := h; rfl
  · obtain ⟨n, ps, rfl, hl, hB, hR⟩ := h
    simp only [sNewK, sNewK1, sPutK, xInK, xGetK, xSortD, xSum, xSumV, sPopL, sToOO, sAppOO, sForO, Dt.dk.injEq, xSortP, sExp, sNext, sSeq, sSet, sSetO, sRet, sRetO, sRetV, sIf, sFrz, sApp, xVar, xC, xVarB, xVarQ, xVarL, xSeq, xLst, x2, xB, xNot, xAnd, xNeg, xIf, xChain, xIx, xNil, xCons, xTup, xDisp, xLen, xTuple, xCat, xCatT, xCall, xCallO, xRange1, xAll, xPn, xPs, xIndex, xSlice, gN, gN2, rdI0, rdI, rdEq, rdNe, rdIn, reduceCtorEq, false_or, or_false, false_and, exists_false, exists_const, frz_d, frz_o, seqS, seq_l, seq_t, seq_scr, startD, capD, List.map_cons, List.map_nil, List.length_cons, List.length_nil, List.getElem?_cons_zero, List.getElem?_cons_succ, List.set_cons_zero, List.set_cons_succ, List.replicate_succ, List.replicate_zero, List.cons_append, List.nil_append, Option.some.injEq, Dt.d.injEq, Dt.o.injEq, PyData.int.injEq, PyData.bool.injEq, PyData.tuple.injEq, PyData.list.injEq, exists_eq_left, exists_eq_left', exists_eq_right, exists_and_left, true_and, and_true, ne_eq, not_false_eq_true, Option.getD_some, Option.getD_none, Nat.reduceAdd, Nat.reduceSub, Nat.reduceLeDiff, Nat.zero_le, Nat.le_refl, xLC, seq_sp, at0, at1]
    refine ⟨Gf ps pD (fun _ => true) (fun q => pD (swP q)), fun y hy => ?_, fun o ho => ?_⟩
    · obtain ⟨q, hq, rfl⟩ := List.mem_map.mp hy
      exact ⟨_, _, rfl, Gf.keep hq rfl rfl⟩
    · rw [Gf.all pD_inj ho]
      refine ⟨ps.map swP, by rw [List.map_map]; rfl, by rw [List.length_map]; exact hl, 100, fun q hq => ?_, fun qs h1 h2 => hR qs h1 h2⟩
      obtain ⟨r, hr, rfl⟩ := List.mem_map.mp hq
      exact (hB r hr).1
end
section
variable {P : Program} {w : World} {K : PySem.W.Frag} {mg : Str → Option Value} {base : Heap}
theorem scTp : FnScope ["space", "top"] ["space"] (defScope s_topped) := ⟨rfl, rfl, rfl, by decide +kernel, rfl, by decide +kernel, by decide +kernel⟩
theorem ok_Tp {f : Addr} {fd : FuncData} (F : Fun K "topped" "topped" s_topped f fd) (T : Txt K mg) (GRf : Fn P w K mg base "refuse_too_many" 1 ["many"] (spG K Pref)) :
    FnOk P w K mg base CX0 2 f fd ["space"] (spG K Ptop) := by
  refine F.okG scTp (fun ds RS h => ?_) (fun cdv A outer s H E hr => (dss_cons (ds_set 1 (fun _ => scTp.nd) (de_ix (dq_var 0) (de_int).bw))
      (dss_cons (ds_expr (de_call GRf (fun _ => hr.mono (by decide)) (da_cons (de_bin od_add (db_var 1) (de_int).bw) da_nil)))
      (dss_one (ds_ret (de_tup (da_cons (de_bin od_add (db_var 1) (de_int).bw) (da_cons (de_tuple (do_sortP (do_cat (do_list (de_ix (dq_var 0) (de_int).bw).q (fun _ => T.list)).l (do_lc (N' := ["point", "top"]) (fun _ => (.own (.cap 1 rfl rfl rfl .nil))) (di_range1 (db_var 1) (fun _ => T.range)) (dg_name 0 (fun _ => (by decide +kernel : (["point", "top"] : List Str).Nodup))) dif_nil (de_tup (da_cons (de_var 0) (da_cons (de_var 1) da_nil)))).l).l (fun _ => T.sorted) (fun _ => room_u hr (by decide))) (fun _ => T.tuple)) da_nil)))))))) (fun ds RS h => ?_)
  · obtain ⟨n, ps, rfl, _⟩ := h; rfl
  · obtain ⟨n, ps, rfl, n1, nm, hl, hB, hR⟩ := h
    refine seq_d (fun env => env = [.d (spD n ps), .d (.int (n : Int))]) (fun N hN => ?_) ?_
    · simp only [sNewK, sNewK1, sPutK, xInK, xGetK, xSortD, xSum, xSumV, sPopL, sToOO, sAppOO, sForO, Dt.dk.injEq, xSortP, sExp, sNext, sSeq, sSet, sSetO, sRet, sRetO, sRetV, sIf, sFrz, sApp, xVar, xC, xVarB, xVarQ, xVarL, xSeq, xLst, x2, xB, xNot, xAnd, xNeg, xIf, xChain, xIx, xNil, xCons, xTup, xDisp, xLen, xTuple, xCat, xCatT, xCall, xCallO, xRange1, xAll, xPn, xPs, xIndex, xSlice, gN, gN2, rdI0, rdI, rdEq, rdNe, rdIn, reduceCtorEq, false_or, or_false, false_and, exists_false, exists_const, frz_d, frz_o, seqS, seq_l, seq_t, seq_scr, startD, capD, List.map_cons, List.map_nil, List.length_cons, List.length_nil, List.getElem?_cons_zero, List.getElem?_cons_succ, List.set_cons_zero, List.set_cons_succ, List.replicate_succ, List.replicate_zero, List.cons_append, List.nil_append, Option.some.injEq, Dt.d.injEq, Dt.o.injEq, PyData.int.injEq, PyData.bool.injEq, PyData.tuple.injEq, PyData.list.injEq, exists_eq_left, exists_eq_left', exists_eq_right, exists_and_left, true_and, and_true, ne_eq, not_false_eq_true, Option.getD_some, Option.getD_none, Nat.reduceAdd, Nat.reduceSub, Nat.reduceLeDiff, Nat.zero_le, Nat.le_refl, seq_sp, at0]
      exact hN _ rfl
    rintro env rfl
    refine seq_d (fun env => env = [.d (spD n ps), .d (.int (n : Int))]) (fun N hN => ?_) ?_
    · simp only [sNewK, sNewK1, sPutK, xInK, xGetK, xSortD, xSum, xSumV, sPopL, sToOO, sAppOO, sForO, Dt.dk.injEq, xSortP, sExp, sNext, sSeq, sSet, sSetO, sRet, sRetO, sRetV, sIf, sFrz, sApp, xVar, xC, xVarB, xVarQ, xVarL, xSeq, xLst, x2, xB, xNot, xAnd, xNeg, xIf, xChain, xIx, xNil, xCons, xTup, xDisp, xLen, xTuple, xCat, xCatT, xCall, xCallO, xRange1, xAll, xPn, xPs, xIndex, xSlice, gN, gN2, rdI0, rdI, rdEq, rdNe, rdIn, reduceCtorEq, false_or, or_false, false_and, exists_false, exists_const, frz_d, frz_o, seqS, seq_l, seq_t, seq_scr, startD, capD, List.map_cons, List.map_nil, List.length_cons, List.length_nil, List.getElem?_cons_zero, List.getElem?_cons_succ, List.set_cons_zero, List.set_cons_succ, List.replicate_succ, List.replicate_zero, List.cons_append, List.nil_append, Option.some.injEq, Dt.d.injEq, Dt.o.injEq, PyData.int.injEq, PyData.bool.injEq, PyData.tuple.injEq, PyData.list.injEq, exists_eq_left, exists_eq_left', exists_eq_right, exists_and_left, true_and, and_true, ne_eq, not_false_eq_true, Option.getD_some, Option.getD_none, Nat.reduceAdd, Nat.reduceSub, Nat.reduceLeDiff, Nat.zero_le, Nat.le_refl]
      exact ⟨_, rfl, by omega, by omega, _, rfl, hN _ rfl⟩
    rintro env rfl
    simp only [sNewK, sNewK1, sPutK, xInK, xGetK, xSortD, xSum, xSumV, sPopL, sToOO, sAppOO, sForO, Dt.dk.injEq, xSortP, sExp, sNext, sSeq, sSet, sSetO, sRet, sRetO, sRetV, sIf, sFrz, sApp, xVar, xC, xVarB, xVarQ, xVarL, xSeq, xLst, x2, xB, xNot, xAnd, xNeg, xIf, xChain, xIx, xNil, xCons, xTup, xDisp, xLen, xTuple, xCat, xCatT, xCall, xCallO, xRange1, xAll, xPn, xPs, xIndex, xSlice, gN, gN2, rdI0, rdI, rdEq, rdNe, rdIn, reduceCtorEq, false_or, or_false, false_and, exists_false, exists_const, frz_d, frz_o, seqS, seq_l, seq_t, seq_scr, startD, capD, List.map_cons, List.map_nil, List.length_cons, List.length_nil, List.getElem?_cons_zero, List.getElem?_cons_succ, List.set_cons_zero, List.set_cons_succ, List.replicate_succ, List.replicate_zero, List.cons_append, List.nil_append, Option.some.injEq, Dt.d.injEq, Dt.o.injEq, PyData.int.injEq, PyData.bool.injEq, PyData.tuple.injEq, PyData.list.injEq, exists_eq_left, exists_eq_left', exists_eq_right, exists_and_left, true_and, and_true, ne_eq, not_false_eq_true, Option.getD_some, Option.getD_none, Nat.reduceAdd, Nat.reduceSub, Nat.reduceLeDiff, Nat.zero_le, Nat.le_refl, xLC, seq_sp, at0, at1]
    refine ⟨by omega, by omega, ?_⟩
    rw [Int.toNat_natCast, ints_rng]
    refine ⟨Gf (rngI n) PyData.int (fun _ => true) (fun x => pD (x, (n : Int))), fun y hy => ?_, fun o ho => ?_⟩
    · obtain ⟨x, hx, rfl⟩ := List.mem_map.mp hy
      exact Gf.keep hx rfl rfl
    · rw [Gf.all int_inj ho]
      refine ⟨by rw [List.length_map, List.length_map, rngI_len]; omega, topL n ps, by unfold topL; rw [List.map_append, List.map_map]; rfl, by unfold topL; rw [List.length_append, List.length_map, rngI_len]; exact hl, 100, fun q hq => ?_, fun qs h1 h2 => hR qs h1 h2⟩
      rcases List.mem_append.mp hq with hq | hq
      · exact (hB q hq).2
      · obtain ⟨x, _, rfl⟩ := List.mem_map.mp hq
        exact ⟨by dsimp only; omega, by dsimp only; omega⟩
end
section
variable {P : Program} {w : World} {K : PySem.W.Frag} {mg : Str → Option Value} {base : Heap}
theorem scLaw : FnScope ["script", "space", "row", "due", "other", "more", "high"] ["script"] (defScope sLaw) := ⟨rfl, rfl, rfl, by decide +kernel, rfl, by decide +kernel, by decide +kernel⟩
theorem ok_Law {f Tb : Addr} {fd : FuncData} {c0 : Addr} (F : Fun K "law" "law" sLaw f fd) (T : Txt K mg) (Z : XT K mg c0) (GDSp : Fn P w K mg base "_law_space" 3 ["script", "at", "most"] (spG K Pspace)) (GDCl : Fn P w K mg base "_law_cell" 2 ["script", "k"] (spG K Pcell)) (GDw : Fn P w K mg base "_law_drawn_row" 3 ["space", "script", "at"] (spG K Pdrawn)) (GAl : Fn P w K mg base "along" 5 ["space", "row"] (spG K Palong)) (GPs : Fn P w K mg base "pieces" 3 ["space"] (spG K Ppcs)) (GEc : FnT P w K mg base "even_count" 6 ["space"] lamP lamQ Tb (Pec)) (GTu : Fn P w K mg base "turned" 1 ["space"] (spG K Pturn)) (GBs : Fn P w K mg base "beside" 2 ["one", "other"] (spG K Pbes)) (GTp : Fn P w K mg base "topped" 2 ["space"] (spG K Ptop)) :
    FnOk P w K mg base CX0 10 f fd ["script"] (spT lamP lamQ Tb K Plaw) := by
  refine F.okP scLaw (fun ds RS h => ?_) (fun cdv A outer s H E hcd hr => (dssT_cons (DS.toT (ds_set 1 (fun _ => scLaw.nd) (de_call GDSp (fun _ => hr.mono (by decide)) (da_cons (de_var 0) (da_cons (de_int) (da_cons (de_int) da_nil))))))
      (dssT_cons (DS.toT (ds_set 2 (fun _ => scLaw.nd) ((do_call GDw (fun _ => hr.mono (by decide)) (da_cons (de_var 1) (da_cons (de_var 0) (da_cons (de_int) da_nil)))).ew)))
      (dssT_cons (DS.toT (ds_if (dt_cmp (od_eq (fun _ => room_u hr (by decide))) (de_bin od_mod (de_call GDCl (fun _ => hr.mono (by decide)) (da_cons (de_var 0) (da_cons (de_int) da_nil))).bw (de_int).bw).bw (de_int).bw) (dss_one (ds_set 2 (fun _ => scLaw.nd) ((do_slice (dl_var 2) dp_none (dp_some (de_bin od_mod (de_bin od_fdiv (de_call GDCl (fun _ => hr.mono (by decide)) (da_cons (de_var 0) (da_cons (de_int) da_nil))).bw (de_int).bw).bw (de_bin od_add (de_len (dq_var 2) (fun _ => T.len)).bw (de_int).bw).bw).bw)).ew))) dss_nil))
      (dssT_cons (DST.set 3 (fun _ => scLaw.nd) (deT_pair (DE.toT (de_len (de_call GPs (fun _ => hr.mono (by decide)) (da_cons (de_var 1) da_nil)).q (fun _ => T.len))) (deT_call GEc (fun _ => hr.mono (by decide)) (da_cons (de_var 1) da_nil))))
      (dssT_cons (DST.for (fun _ => PassesOwn.never) ((do_lst (da_cons (de_call GAl (fun _ => hr.mono (by decide)) (da_cons (de_var 1) (da_cons ((do_list (dq_var 2) (fun _ => T.list)).ew) da_nil))) (da_cons (de_call GTu (fun _ => hr.mono (by decide)) (da_cons (de_var 1) da_nil)) (da_cons (de_call GTu (fun _ => hr.mono (by decide)) (da_cons (de_call GAl (fun _ => hr.mono (by decide)) (da_cons (de_var 1) (da_cons ((do_list (dq_var 2) (fun _ => T.list)).ew) da_nil))) da_nil)) da_nil)))).ew) (dg_name 4 (fun _ => scLaw.nd)) (dssT_one (DST.ite (dtT_cmp (od_ne (fun _ => room_u hr (by decide))) (deT_pair (DE.toT (de_len (de_call GPs (fun _ => hr.mono (by decide)) (da_cons (de_var 4) da_nil)).q (fun _ => T.len))) (deT_call GEc (fun _ => hr.mono (by decide)) (da_cons (de_var 4) da_nil))) (db_var 3)) (DSs.toT (dss_one (ds_ret (de_bl)))) (DSs.toT dss_nil))))
      (dssT_cons (DS.toT (ds_set 5 (fun _ => scLaw.nd) (de_call GBs (fun _ => hr.mono (by decide)) (da_cons (de_var 1) (da_cons (de_tup (da_cons (de_int) (da_cons (de_tup da_nil) da_nil))) da_nil)))))
      (dssT_cons (DST.ite (dtT_cmp (od_ne (fun _ => room_u hr (by decide))) (deT_pair (DE.toT (de_len (de_call GPs (fun _ => hr.mono (by decide)) (da_cons (de_var 5) da_nil)).q (fun _ => T.len))) (deT_call GEc (fun _ => hr.mono (by decide)) (da_cons (de_var 5) da_nil))) (de_tup (da_cons (de_bin od_add (de_ix (dq_var 3) (de_int).bw).bw (de_int).bw) (da_cons (de_bin od_add (de_ix (dq_var 3) (de_int).bw).bw (de_int).bw) da_nil))).bw) (DSs.toT (dss_one (ds_ret (de_bl)))) (DSs.toT dss_nil))
      (dssT_cons (DS.toT (ds_set 6 (fun _ => scLaw.nd) (de_call GTp (fun _ => hr.mono (by decide)) (da_cons (de_var 1) da_nil))))
      (dssT_one (DST.ret (deT_cmp (od_eq (fun _ => room_u hr (by decide))) (deT_pair (DE.toT (de_len (de_call GPs (fun _ => hr.mono (by decide)) (da_cons (de_var 6) da_nil)).q (fun _ => T.len))) (deT_call GEc (fun _ => hr.mono (by decide)) (da_cons (de_var 6) da_nil))) (de_tup (da_cons (de_int) (da_cons (de_int) da_nil))).bw)))))))))))) (fun ds RS h => ?_)
  · obtain ⟨ns, rfl, _⟩ := h; rfl
  · obtain ⟨ns, rfl, hn, hR⟩ := h
    refine seq_d (fun env => ∃ (n : Nat) (ps : List (Int × Int)), env = [.d (scrD ns), .d (spD n ps), .un, .un, .un, .un, .un] ∧ 1 ≤ n ∧ n ≤ 10 ∧ IsSp n ps) (fun N hN => ?_) ?_
    · simp only [sNewK, sNewK1, sPutK, xInK, xGetK, xSortD, xSum, xSumV, sPopL, sToOO, sAppOO, sForO, Dt.dk.injEq, xSortP, sExp, sNext, sSeq, sSet, sSetO, sRet, sRetO, sRetV, sIf, sFrz, sApp, xVar, xC, xVarB, xVarQ, xVarL, xSeq, xLst, x2, xB, xNot, xAnd, xNeg, xIf, xChain, xIx, xNil, xCons, xTup, xDisp, xLen, xTuple, xCat, xCatT, xCall, xCallO, xRange1, xAll, xPn, xPs, xIndex, xSlice, gN, gN2, rdI0, rdI, rdEq, rdNe, rdIn, reduceCtorEq, false_or, or_false, false_and, exists_false, exists_const, frz_d, frz_o, seqS, seq_l, seq_t, seq_scr, startD, capD, List.map_cons, List.map_nil, List.length_cons, List.length_nil, List.getElem?_cons_zero, List.getElem?_cons_succ, List.set_cons_zero, List.set_cons_succ, List.replicate_succ, List.replicate_zero, List.cons_append, List.nil_append, Option.some.injEq, Dt.d.injEq, Dt.o.injEq, PyData.int.injEq, PyData.bool.injEq, PyData.tuple.injEq, PyData.list.injEq, exists_eq_left, exists_eq_left', exists_eq_right, exists_and_left, true_and, and_true, ne_eq, not_false_eq_true, Option.getD_some, Option.getD_none, Nat.reduceAdd, Nat.reduceSub, Nat.reduceLeDiff, Nat.zero_le, Nat.le_refl]
      exact ⟨ns, 0, 10, rfl, by decide, by decide, fun n ps h1 h2 h3 => ⟨_, rfl, hN _ ⟨n, ps, rfl, h1, by omega, h3⟩⟩⟩
    rintro env ⟨n, ps, rfl, n1, n10, isp⟩
    have hin : InRs n ps := isp.inR
    have sp := isp.ok n1 (by omega)
    have tri := isp.tri
    have tri2 : n * (n - 1) ≤ 10 * 9 := Nat.mul_le_mul n10 (by omega)
    refine seq_d (fun env => ∃ (row : List Int) (n' : Nat) (ps' : List (Int × Int)), env = [.d (scrD ns), .d (spD n ps), .d (.list (row.map PyData.int)), .un, .un, .un, .un] ∧ Walk n ps row n' ps') (fun N hN => ?_) ?_
    · simp only [sNewK, sNewK1, sPutK, xInK, xGetK, xSortD, xSum, xSumV, sPopL, sToOO, sAppOO, sForO, Dt.dk.injEq, xSortP, sExp, sNext, sSeq, sSet, sSetO, sRet, sRetO, sRetV, sIf, sFrz, sApp, xVar, xC, xVarB, xVarQ, xVarL, xSeq, xLst, x2, xB, xNot, xAnd, xNeg, xIf, xChain, xIx, xNil, xCons, xTup, xDisp, xLen, xTuple, xCat, xCatT, xCall, xCallO, xRange1, xAll, xPn, xPs, xIndex, xSlice, gN, gN2, rdI0, rdI, rdEq, rdNe, rdIn, reduceCtorEq, false_or, or_false, false_and, exists_false, exists_const, frz_d, frz_o, seqS, seq_l, seq_t, seq_scr, startD, capD, List.map_cons, List.map_nil, List.length_cons, List.length_nil, List.getElem?_cons_zero, List.getElem?_cons_succ, List.set_cons_zero, List.set_cons_succ, List.replicate_succ, List.replicate_zero, List.cons_append, List.nil_append, Option.some.injEq, Dt.d.injEq, Dt.o.injEq, PyData.int.injEq, PyData.bool.injEq, PyData.tuple.injEq, PyData.list.injEq, exists_eq_left, exists_eq_left', exists_eq_right, exists_and_left, true_and, and_true, ne_eq, not_false_eq_true, Option.getD_some, Option.getD_none, Nat.reduceAdd, Nat.reduceSub, Nat.reduceLeDiff, Nat.zero_le, Nat.le_refl]
      exact ⟨n, ps, ns, 1, rfl, by omega, hin, fun row n' ps' w hf => ⟨_, rfl, hN _ ⟨row, n', ps', rfl, w⟩⟩⟩
    rintro env ⟨row0, n0, ps0, rfl, w0⟩
    refine seq_d (fun env => ∃ (row : List Int) (n' : Nat) (ps' : List (Int × Int)), env = [.d (scrD ns), .d (spD n ps), .d (.list (row.map PyData.int)), .un, .un, .un, .un] ∧ Walk n ps row n' ps') (fun N hN => ?_) ?_
    · simp only [sNewK, sNewK1, sPutK, xInK, xGetK, xSortD, xSum, xSumV, sPopL, sToOO, sAppOO, sForO, Dt.dk.injEq, xSortP, sExp, sNext, sSeq, sSet, sSetO, sRet, sRetO, sRetV, sIf, sFrz, sApp, xVar, xC, xVarB, xVarQ, xVarL, xSeq, xLst, x2, xB, xNot, xAnd, xNeg, xIf, xChain, xIx, xNil, xCons, xTup, xDisp, xLen, xTuple, xCat, xCatT, xCall, xCallO, xRange1, xAll, xPn, xPs, xIndex, xSlice, gN, gN2, rdI0, rdI, rdEq, rdNe, rdIn, reduceCtorEq, false_or, or_false, false_and, exists_false, exists_const, frz_d, frz_o, seqS, seq_l, seq_t, seq_scr, startD, capD, List.map_cons, List.map_nil, List.length_cons, List.length_nil, List.getElem?_cons_zero, List.getElem?_cons_succ, List.set_cons_zero, List.set_cons_succ, List.replicate_succ, List.replicate_zero, List.cons_append, List.nil_append, Option.some.injEq, Dt.d.injEq, Dt.o.injEq, PyData.int.injEq, PyData.bool.injEq, PyData.tuple.injEq, PyData.list.injEq, exists_eq_left, exists_eq_left', exists_eq_right, exists_and_left, true_and, and_true, ne_eq, not_false_eq_true, Option.getD_some, Option.getD_none, Nat.reduceAdd, Nat.reduceSub, Nat.reduceLeDiff, Nat.zero_le, Nat.le_refl]
      refine ⟨ns, 2, rfl, fun c => ⟨_, rfl, c, rfl, by decide, okI _, okI _, .inl (shI _), ite2 (fun e => ?_) (fun e => hN _ ⟨row0, n0, ps0, rfl, w0⟩)⟩⟩
      refine ⟨ns, 2, rfl, fun c2 => ⟨_, rfl, c2, rfl, by simp [CDiv], by rw [List.length_map]; omega, ?_⟩⟩
      rw [cut_take _ _ (Int.emod_nonneg _ (by rw [List.length_map]; omega))]
      obtain ⟨n2, ps2, w2⟩ := w0.take (c2 / 3 % (((row0.map PyData.int).length : Int) + 1)).toNat
      exact hN _ ⟨_, n2, ps2, rfl, w2⟩
    rintro env ⟨row, n', ps', rfl, w⟩
    have wa := walk_alike w sp
    have le := wa.le
    refine seq_d (fun env => env = [.d (scrD ns), .d (spD n ps), .d (.list (row.map PyData.int)), .d (cD (lpF n ps).length (ecF n ps)), .un, .un, .un]) (fun N hN => ?_) ?_
    · simp only [sNewK, sNewK1, sPutK, xInK, xGetK, xSortD, xSum, xSumV, sPopL, sToOO, sAppOO, sForO, Dt.dk.injEq, xSortP, sExp, sNext, sSeq, sSet, sSetO, sRet, sRetO, sRetV, sIf, sFrz, sApp, xVar, xC, xVarB, xVarQ, xVarL, xSeq, xLst, x2, xB, xNot, xAnd, xNeg, xIf, xChain, xIx, xNil, xCons, xTup, xDisp, xLen, xTuple, xCat, xCatT, xCall, xCallO, xRange1, xAll, xPn, xPs, xIndex, xSlice, gN, gN2, rdI0, rdI, rdEq, rdNe, rdIn, reduceCtorEq, false_or, or_false, false_and, exists_false, exists_const, frz_d, frz_o, seqS, seq_l, seq_t, seq_scr, startD, capD, List.map_cons, List.map_nil, List.length_cons, List.length_nil, List.getElem?_cons_zero, List.getElem?_cons_succ, List.set_cons_zero, List.set_cons_succ, List.replicate_succ, List.replicate_zero, List.cons_append, List.nil_append, Option.some.injEq, Dt.d.injEq, Dt.o.injEq, PyData.int.injEq, PyData.bool.injEq, PyData.tuple.injEq, PyData.list.injEq, exists_eq_left, exists_eq_left', exists_eq_right, exists_and_left, true_and, and_true, ne_eq, not_false_eq_true, Option.getD_some, Option.getD_none, Nat.reduceAdd, Nat.reduceSub, Nat.reduceLeDiff, Nat.zero_le, Nat.le_refl, xPair, xCallT]
      exact ⟨n, ps, rfl, sp, _, rfl, _, rfl, n, ps, rfl, sp, _, rfl, hN _ (by rw [cnt_len])⟩
    rintro env rfl
    refine seq_d (fun env => ∃ v4, env = [.d (scrD ns), .d (spD n ps), .d (.list (row.map PyData.int)), .d (cD (lpF n ps).length (ecF n ps)), v4, .un, .un]) (fun N hN => ?_) ?_
    · simp only [sNewK, sNewK1, sPutK, xInK, xGetK, xSortD, xSum, xSumV, sPopL, sToOO, sAppOO, sForO, Dt.dk.injEq, xSortP, sExp, sNext, sSeq, sSet, sSetO, sRet, sRetO, sRetV, sIf, sFrz, sApp, xVar, xC, xVarB, xVarQ, xVarL, xSeq, xLst, x2, xB, xNot, xAnd, xNeg, xIf, xChain, xIx, xNil, xCons, xTup, xDisp, xLen, xTuple, xCat, xCatT, xCall, xCallO, xRange1, xAll, xPn, xPs, xIndex, xSlice, gN, gN2, rdI0, rdI, rdEq, rdNe, rdIn, reduceCtorEq, false_or, or_false, false_and, exists_false, exists_const, frz_d, frz_o, seqS, seq_l, seq_t, seq_scr, startD, capD, List.map_cons, List.map_nil, List.length_cons, List.length_nil, List.getElem?_cons_zero, List.getElem?_cons_succ, List.set_cons_zero, List.set_cons_succ, List.replicate_succ, List.replicate_zero, List.cons_append, List.nil_append, Option.some.injEq, Dt.d.injEq, Dt.o.injEq, PyData.int.injEq, PyData.bool.injEq, PyData.tuple.injEq, PyData.list.injEq, exists_eq_left, exists_eq_left', exists_eq_right, exists_and_left, true_and, and_true, ne_eq, not_false_eq_true, Option.getD_some, Option.getD_none, Nat.reduceAdd, Nat.reduceSub, Nat.reduceLeDiff, Nat.zero_le, Nat.le_refl, sForL]
      refine ⟨n, ps, row, n', ps', rfl, w, _, rfl, n, ps, rfl, by omega, sp.inB, fun ts t1 _ => ⟨_, rfl, n, ps, row, n', ps', rfl, w, _, rfl, n', ps', rfl, by omega, wa.ok.inB, fun us u1 _ => ⟨_, rfl, ?_⟩⟩⟩
      have ta := turn_alike sp t1
      have ua := turn_alike wa.ok u1
      refine ⟨fun _ env => ∃ v4, env = [.d (scrD ns), .d (spD n ps), .d (.list (row.map PyData.int)), .d (cD (lpF n ps).length (ecF n ps)), v4, .un, .un], ⟨_, rfl⟩, ?_, fun env h => hN env h⟩
      rintro k y env hy ⟨v4, rfl⟩
      obtain ⟨m, qs, rfl, al⟩ : ∃ (m : Nat) (qs : List (Int × Int)), y = spD m qs ∧ Alike n ps m qs := by
        rcases three hy with rfl | rfl | rfl
        · exact ⟨n', ps', rfl, wa⟩
        · exact ⟨n, ts, rfl, ta⟩
        · exact ⟨n', us, rfl, ⟨ua.ok, ua.ec.trans wa.ec, ua.lp.trans wa.lp, Nat.le_trans ua.le wa.le⟩⟩
      simp only [sNewK, sNewK1, sPutK, xInK, xGetK, xSortD, xSum, xSumV, sPopL, sToOO, sAppOO, sForO, Dt.dk.injEq, xSortP, sExp, sNext, sSeq, sSet, sSetO, sRet, sRetO, sRetV, sIf, sFrz, sApp, xVar, xC, xVarB, xVarQ, xVarL, xSeq, xLst, x2, xB, xNot, xAnd, xNeg, xIf, xChain, xIx, xNil, xCons, xTup, xDisp, xLen, xTuple, xCat, xCatT, xCall, xCallO, xRange1, xAll, xPn, xPs, xIndex, xSlice, gN, gN2, rdI0, rdI, rdEq, rdNe, rdIn, reduceCtorEq, false_or, or_false, false_and, exists_false, exists_const, frz_d, frz_o, seqS, seq_l, seq_t, seq_scr, startD, capD, List.map_cons, List.map_nil, List.length_cons, List.length_nil, List.getElem?_cons_zero, List.getElem?_cons_succ, List.set_cons_zero, List.set_cons_succ, List.replicate_succ, List.replicate_zero, List.cons_append, List.nil_append, Option.some.injEq, Dt.d.injEq, Dt.o.injEq, PyData.int.injEq, PyData.bool.injEq, PyData.tuple.injEq, PyData.list.injEq, exists_eq_left, exists_eq_left', exists_eq_right, exists_and_left, true_and, and_true, ne_eq, not_false_eq_true, Option.getD_some, Option.getD_none, Nat.reduceAdd, Nat.reduceSub, Nat.reduceLeDiff, Nat.zero_le, Nat.le_refl, xPair, xCallT]
      refine ⟨m, qs, rfl, al.ok, _, rfl, _, rfl, m, qs, rfl, al.ok, _, rfl, okP (_, _), okP (_, _), .inl (shP (_, _)), iteN ?_ ⟨_, rfl⟩⟩
      show (!PyData.eqv (cD _ _) (cD _ _)) = false
      rw [cD_eqv, cnt_len, al.lp, al.ec]
      simp
    rintro env ⟨v4, rfl⟩
    refine seq_d (fun env => env = [.d (scrD ns), .d (spD n ps), .d (.list (row.map PyData.int)), .d (cD (lpF n ps).length (ecF n ps)), v4, .d (spD ((n + 1 : Nat) : Int) ps), .un]) (fun N hN => ?_) ?_
    · simp only [sNewK, sNewK1, sPutK, xInK, xGetK, xSortD, xSum, xSumV, sPopL, sToOO, sAppOO, sForO, Dt.dk.injEq, xSortP, sExp, sNext, sSeq, sSet, sSetO, sRet, sRetO, sRetV, sIf, sFrz, sApp, xVar, xC, xVarB, xVarQ, xVarL, xSeq, xLst, x2, xB, xNot, xAnd, xNeg, xIf, xChain, xIx, xNil, xCons, xTup, xDisp, xLen, xTuple, xCat, xCatT, xCall, xCallO, xRange1, xAll, xPn, xPs, xIndex, xSlice, gN, gN2, rdI0, rdI, rdEq, rdNe, rdIn, reduceCtorEq, false_or, or_false, false_and, exists_false, exists_const, frz_d, frz_o, seqS, seq_l, seq_t, seq_scr, startD, capD, List.map_cons, List.map_nil, List.length_cons, List.length_nil, List.getElem?_cons_zero, List.getElem?_cons_succ, List.set_cons_zero, List.set_cons_succ, List.replicate_succ, List.replicate_zero, List.cons_append, List.nil_append, Option.some.injEq, Dt.d.injEq, Dt.o.injEq, PyData.int.injEq, PyData.bool.injEq, PyData.tuple.injEq, PyData.list.injEq, exists_eq_left, exists_eq_left', exists_eq_right, exists_and_left, true_and, and_true, ne_eq, not_false_eq_true, Option.getD_some, Option.getD_none, Nat.reduceAdd, Nat.reduceSub, Nat.reduceLeDiff, Nat.zero_le, Nat.le_refl]
      refine ⟨n, 1, ps, [], rfl, by rw [List.length_nil]; omega, by omega, by omega, _, rfl, hN _ ?_⟩
      rw [List.map_nil, List.append_nil]; rfl
    rintro env rfl
    have mo := more_ok sp (by omega)
    refine seq_d (fun env => env = [.d (scrD ns), .d (spD n ps), .d (.list (row.map PyData.int)), .d (cD (lpF n ps).length (ecF n ps)), v4, .d (spD ((n + 1 : Nat) : Int) ps), .un]) (fun N hN => ?_) ?_
    · simp only [sNewK, sNewK1, sPutK, xInK, xGetK, xSortD, xSum, xSumV, sPopL, sToOO, sAppOO, sForO, Dt.dk.injEq, xSortP, sExp, sNext, sSeq, sSet, sSetO, sRet, sRetO, sRetV, sIf, sFrz, sApp, xVar, xC, xVarB, xVarQ, xVarL, xSeq, xLst, x2, xB, xNot, xAnd, xNeg, xIf, xChain, xIx, xNil, xCons, xTup, xDisp, xLen, xTuple, xCat, xCatT, xCall, xCallO, xRange1, xAll, xPn, xPs, xIndex, xSlice, gN, gN2, rdI0, rdI, rdEq, rdNe, rdIn, reduceCtorEq, false_or, or_false, false_and, exists_false, exists_const, frz_d, frz_o, seqS, seq_l, seq_t, seq_scr, startD, capD, List.map_cons, List.map_nil, List.length_cons, List.length_nil, List.getElem?_cons_zero, List.getElem?_cons_succ, List.set_cons_zero, List.set_cons_succ, List.replicate_succ, List.replicate_zero, List.cons_append, List.nil_append, Option.some.injEq, Dt.d.injEq, Dt.o.injEq, PyData.int.injEq, PyData.bool.injEq, PyData.tuple.injEq, PyData.list.injEq, exists_eq_left, exists_eq_left', exists_eq_right, exists_and_left, true_and, and_true, ne_eq, not_false_eq_true, Option.getD_some, Option.getD_none, Nat.reduceAdd, Nat.reduceSub, Nat.reduceLeDiff, Nat.zero_le, Nat.le_refl, xPair, xCallT]
      refine ⟨n + 1, ps, rfl, mo, _, rfl, _, rfl, n + 1, ps, rfl, mo, _, rfl, _, at0 _ _, _, rfl, _, at1 _ _ _, _, rfl, okP (_, _), okP (_, _), .inl (shP (_, _)), iteN ?_ (hN _ rfl)⟩
      show (!PyData.eqv (cD _ _) (cD _ _)) = false
      rw [cD_eqv, cnt_len, lp_more sp.inr, ec_more sp.inr sp.ord sp.nd mo.inr]
      simp
    rintro env rfl
    refine seq_d (fun env => ∃ qs, qs.Perm (topL n ps) ∧ env = [.d (scrD ns), .d (spD n ps), .d (.list (row.map PyData.int)), .d (cD (lpF n ps).length (ecF n ps)), v4, .d (spD ((n + 1 : Nat) : Int) ps), .d (spD ((n + 1 : Nat) : Int) qs)]) (fun N hN => ?_) ?_
    · simp only [sNewK, sNewK1, sPutK, xInK, xGetK, xSortD, xSum, xSumV, sPopL, sToOO, sAppOO, sForO, Dt.dk.injEq, xSortP, sExp, sNext, sSeq, sSet, sSetO, sRet, sRetO, sRetV, sIf, sFrz, sApp, xVar, xC, xVarB, xVarQ, xVarL, xSeq, xLst, x2, xB, xNot, xAnd, xNeg, xIf, xChain, xIx, xNil, xCons, xTup, xDisp, xLen, xTuple, xCat, xCatT, xCall, xCallO, xRange1, xAll, xPn, xPs, xIndex, xSlice, gN, gN2, rdI0, rdI, rdEq, rdNe, rdIn, reduceCtorEq, false_or, or_false, false_and, exists_false, exists_const, frz_d, frz_o, seqS, seq_l, seq_t, seq_scr, startD, capD, List.map_cons, List.map_nil, List.length_cons, List.length_nil, List.getElem?_cons_zero, List.getElem?_cons_succ, List.set_cons_zero, List.set_cons_succ, List.replicate_succ, List.replicate_zero, List.cons_append, List.nil_append, Option.some.injEq, Dt.d.injEq, Dt.o.injEq, PyData.int.injEq, PyData.bool.injEq, PyData.tuple.injEq, PyData.list.injEq, exists_eq_left, exists_eq_left', exists_eq_right, exists_and_left, true_and, and_true, ne_eq, not_false_eq_true, Option.getD_some, Option.getD_none, Nat.reduceAdd, Nat.reduceSub, Nat.reduceLeDiff, Nat.zero_le, Nat.le_refl]
      exact ⟨n, ps, rfl, n1, by omega, by omega, sp.inB, fun qs h1 _ => ⟨_, rfl, hN _ ⟨qs, h1, rfl⟩⟩⟩
    rintro env ⟨qs, hq, rfl⟩
    obtain ⟨so, ht⟩ := top_ok sp (by omega) (by omega) hq
    simp only [sNewK, sNewK1, sPutK, xInK, xGetK, xSortD, xSum, xSumV, sPopL, sToOO, sAppOO, sForO, Dt.dk.injEq, xSortP, sExp, sNext, sSeq, sSet, sSetO, sRet, sRetO, sRetV, sIf, sFrz, sApp, xVar, xC, xVarB, xVarQ, xVarL, xSeq, xLst, x2, xB, xNot, xAnd, xNeg, xIf, xChain, xIx, xNil, xCons, xTup, xDisp, xLen, xTuple, xCat, xCatT, xCall, xCallO, xRange1, xAll, xPn, xPs, xIndex, xSlice, gN, gN2, rdI0, rdI, rdEq, rdNe, rdIn, reduceCtorEq, false_or, or_false, false_and, exists_false, exists_const, frz_d, frz_o, seqS, seq_l, seq_t, seq_scr, startD, capD, List.map_cons, List.map_nil, List.length_cons, List.length_nil, List.getElem?_cons_zero, List.getElem?_cons_succ, List.set_cons_zero, List.set_cons_succ, List.replicate_succ, List.replicate_zero, List.cons_append, List.nil_append, Option.some.injEq, Dt.d.injEq, Dt.o.injEq, PyData.int.injEq, PyData.bool.injEq, PyData.tuple.injEq, PyData.list.injEq, exists_eq_left, exists_eq_left', exists_eq_right, exists_and_left, true_and, and_true, ne_eq, not_false_eq_true, Option.getD_some, Option.getD_none, Nat.reduceAdd, Nat.reduceSub, Nat.reduceLeDiff, Nat.zero_le, Nat.le_refl, xPair, xCallT]
    refine ⟨n + 1, qs, rfl, so, _, rfl, _, rfl, n + 1, qs, rfl, so, _, rfl, okP (_, _), okP (_, _), .inl (shP (_, _)), ?_⟩
    show RS (.d (.bool (PyData.eqv (cD _ _) (cD 1 1))))
    rw [cD_eqv, cnt_len, lp_top so.inr ht, ec_top so.inr so.ord so.nd ht]
    exact hR
end
inductive HasFn (K : PySem.W.Frag) (x : Str) (st : Stmt) : Prop
  | mk {f : Addr} {od an : Option Addr} {sl : Array (Option Value)} {oc kV dc pm cd ct : Value} (a : PySem.W.nsIn K mainGlobals x = some (some (.ref f)))
    (l : K.lookup f = some ⟨oc, od, .func (PySem.W.fnOf x x (defArgs st) (defBody st) (defScope st) .none kV dc pm an cd ct), sl⟩) (c : PySem.W.codeIn K cd x = true) (k : PySem.W.keepIn K (.ref f) = true) : HasFn K x st
section
variable {P : Program} {w : World} {K : PySem.W.Frag} {mg : Str → Option Value} {base h : Heap} {x : Str} {st : Stmt} {k : Nat} {ps : List Str}
abbrev Bd (x : Str) (st : Stmt) (ps : List Str) : Prop := ∀ (kV doc pm : Value) (an : Option Addr) (cdv ct : Value) (us : List Value), us.length = ps.length → bindArgs (PySem.W.fnOf x x (defArgs st) (defBody st) (defScope st) .none kV doc pm an cdv ct) ⟨us, []⟩ = pure (ps.zip us)
theorem bd1 {p : Str} (h : ∀ (kV doc pm : Value) (an : Option Addr) (cdv ct u : Value), bindArgs (PySem.W.fnOf x x (defArgs st) (defBody st) (defScope st) .none kV doc pm an cdv ct) ⟨[u], []⟩ = pure [(p, u)]) : Bd x st [p] := by
  intro kV doc pm an cdv ct us hl
  obtain ⟨u, rfl⟩ := List.length_eq_one_iff.mp hl
  exact h kV doc pm an cdv ct u
theorem bd2 {p q : Str} (h : ∀ (kV doc pm : Value) (an : Option Addr) (cdv ct u v : Value), bindArgs (PySem.W.fnOf x x (defArgs st) (defBody st) (defScope st) .none kV doc pm an cdv ct) ⟨[u, v], []⟩ = pure [(p, u), (q, v)]) : Bd x st [p, q] := by
  intro kV doc pm an cdv ct us hl
  cases us with
  | nil => cases hl
  | cons u us =>
    obtain ⟨v, rfl⟩ := List.length_eq_one_iff.mp (Nat.succ.inj hl)
    exact h kV doc pm an cdv ct u v
theorem bd3 {p q r : Str} (h : ∀ (kV doc pm : Value) (an : Option Addr) (cdv ct u v w : Value), bindArgs (PySem.W.fnOf x x (defArgs st) (defBody st) (defScope st) .none kV doc pm an cdv ct) ⟨[u, v, w], []⟩ = pure [(p, u), (q, v), (r, w)]) : Bd x st [p, q, r] := by
  intro kV doc pm an cdv ct us hl
  cases us with
  | nil => cases hl
  | cons u us =>
    cases us with
    | nil => cases hl
    | cons v us =>
      obtain ⟨w, rfl⟩ := List.length_eq_one_iff.mp (Nat.succ.inj (Nat.succ.inj hl))
      exact h kV doc pm an cdv ct u v w
theorem HasFn.fn {sp : Sp} (H : HasFn K x st) (X : K.In h) (G : h.Ns mainGlobals mg) (hb : Bd x st ps) (ok : ∀ {f : Addr} {fd : FuncData}, Fun K x x st f fd → FnOk P w K mg base CX0 k f fd ps sp) : Fn P w K mg base x k ps sp := by
  obtain ⟨a, l, c, kk⟩ := H
  have F : Fun K x x st _ _ := fun_mk l c kk
  exact ⟨_, _, ok F, PySem.W.mg_of X G a, kk, F.binds hb⟩
theorem HasFn.fnT {Tb : Addr} {sp : List PyData → (Dt → Prop) → Prop} (H : HasFn K x st) (X : K.In h) (G : h.Ns mainGlobals mg) (hb : Bd x st ps) (ok : ∀ {f : Addr} {fd : FuncData}, Fun K x x st f fd → FnOk P w K mg base CX0 k f fd ps (spT lamP lamQ Tb K sp)) : FnT P w K mg base x k ps lamP lamQ Tb sp := by
  obtain ⟨a, l, c, kk⟩ := H
  have F : Fun K x x st _ _ := fun_mk l c kk
  exact ⟨_, _, ok F, PySem.W.mg_of X G a, kk, F.binds hb⟩
end
set_option maxHeartbeats 8000000 in
theorem all_mk {l : PySem.W.OpenLaw} {w : World} {K : PySem.W.Frag} {h : Heap} {mg : Str → Option Value} {fa : Addr} (X : K.In h) (G : h.Ns mainGlobals mg) (hfa : mg "law" = some (.ref fa))
    {ct0 Tb : Addr} {f26 : Addr} {od26 an26 : Option Addr} {sl26 : Array (Option Value)} {oc26 kV26 dc26 pm26 ct26 : Value} {f32 : Addr} {od32 an32 : Option Addr} {sl32 : Array (Option Value)} {oc32 kV32 dc32 pm32 cd32 ct32 : Value} {x0 : Addr} {tk0 : Tok}
    (h1 : HasFn K "_law_stir" sStir)
    (h2 : HasFn K "_law_cell" sCell)
    (h3 : HasFn K "_law_raw" sRaw)
    (h4 : HasFn K "_law_draw" sDraw)
    (h5 : HasFn K "_law_closed" sClosed)
    (h6 : HasFn K "_law_by_digits" sDig)
    (h7 : HasFn K "_law_mixed" sMix)
    (h8 : HasFn K "_law_space" sSpace)
    (h9 : HasFn K "is_point" sPoint)
    (h10 : HasFn K "same_or_under" sSame)
    (h11 : HasFn K "points_under" s_points_under)
    (h12 : HasFn K "points_over" s_points_over)
    (h13 : HasFn K "lowest" s_lowest)
    (h14 : HasFn K "highest" s_highest)
    (h15 : HasFn K "goal" s_goal)
    (h16 : HasFn K "_law_goal" s__law_goal)
    (h17 : HasFn K "_law_foldable" s__law_foldable)
    (h18 : HasFn K "closed_up" s_closed_up)
    (h19 : HasFn K "without" s_without)
    (h20 : HasFn K "_law_without" s__law_without)
    (h21 : HasFn K "folded" s_folded)
    (h22 : HasFn K "along" s_along)
    (h23 : HasFn K "_law_drawn_row" s__law_drawn_row)
    (h24 : HasFn K "piece_of" s_piece_of)
    (h25 : HasFn K "pieces" s_pieces)
    (a26 : PySem.W.nsIn K mainGlobals "from_below" = some (some (.ref f26))) (l26 : K.lookup f26 = some ⟨oc26, od26, .func (PySem.W.fnOf "from_below" "from_below" (defArgs s_from_below) (defBody s_from_below) (defScope s_from_below) .none kV26 dc26 pm26 an26 (.ref ct0) ct26), sl26⟩) (c26 : PySem.W.codeIn K (.ref ct0) "from_below" = true) (k26 : PySem.W.keepIn K (.ref f26) = true)
    (h27 : HasFn K "even_count" s_even_count)
    (h28 : HasFn K "refuse_too_many" s_refuse_too_many)
    (h29 : HasFn K "beside" s_beside)
    (h30 : HasFn K "turned" s_turned)
    (h31 : HasFn K "topped" s_topped)
    (a32 : PySem.W.nsIn K mainGlobals "law" = some (some (.ref f32))) (l32 : K.lookup f32 = some ⟨oc32, od32, .func (PySem.W.fnOf "law" "law" (defArgs sLaw) (defBody sLaw) (defScope sLaw) .none kV32 dc32 pm32 an32 cd32 ct32), sl32⟩) (c32 : PySem.W.codeIn K cd32 "law" = true) (k32 : PySem.W.keepIn K (.ref f32) = true)
    (z0 : PySem.W.nsIn K mainGlobals "range" = some none)
    (z1 : PySem.W.nsIn K mainGlobals "len" = some none)
    (z2 : PySem.W.nsIn K mainGlobals "list" = some none)
    (z3 : PySem.W.nsIn K mainGlobals "tuple" = some none)
    (z4 : PySem.W.nsIn K mainGlobals "isinstance" = some none)
    (z5 : PySem.W.nsIn K mainGlobals "int" = some none)
    (z6 : PySem.W.nsIn K mainGlobals "bool" = some none)
    (z7 : PySem.W.nsIn K mainGlobals "zip" = some none)
    (z8 : PySem.W.nsIn K mainGlobals "all" = some none)
    (z9 : PySem.W.nsIn K mainGlobals "any" = some none)
    (z10 : PySem.W.nsIn K mainGlobals "sum" = some none)
    (z11 : PySem.W.nsIn K mainGlobals "sorted" = some none)
    (z12 : PySem.W.nsIn K mainGlobals "min" = some none)
    (z13 : PySem.W.nsIn K mainGlobals "max" = some none)
    (z14 : PySem.W.nsIn K mainGlobals "str" = some none)
    (z15 : PySem.W.nsIn K mainGlobals "enumerate" = some none)
    (z16 : PySem.W.nsIn K mainGlobals "set" = some none)
    (z17 : PySem.W.nsIn K mainGlobals "reversed" = some none)
    (z18 : PySem.W.nsIn K mainGlobals "ValueError" = some none)
    (y0 : PySem.W.kitOne K (.type "int") (.type "int") = some true)
    (y1 : PySem.W.kitOne K (.type "int") (.type "bool") = some false)
    (y2 : PySem.W.kitOne K (.type "bool") (.type "bool") = some true)
    (y3 : PySem.W.kitOne K (.type "tuple") (.type "tuple") = some true)
    (y4 : PySem.W.kitOne K (.type "list") (.type "list") = some true)
    (y5 : PySem.W.kitOne K (.type "list") (.type "tuple") = some false)
    (y6 : PySem.W.kitOne K (.type "tuple") (.type "list") = some false)
    (y7 : PySem.W.kitOne K (.type "list") (.type "bool") = some false)
    (y8 : PySem.W.kitOne K (.type "bool") (.type "tuple") = some false)
    (y9 : PySem.W.kitOne K (.type "int") (.type "tuple") = some false)
    (y10 : PySem.W.kitOne K (.type "str") (.type "str") = some true)
    (y11 : PySem.W.kitOne K (.type "NoneType") (.type "bool") = some false)
    (y12 : PySem.W.kitOne K (.type "NoneType") (.type "int") = some false)
    (y13 : PySem.W.kitOne K (.type "bool") (.type "int") = some true)
    (ax0 : PySem.W.nsIn K mainGlobals "SpaceError" = some (some (.ref x0))) (bx0 : xOk K x0 = true)
    (ag0 : PySem.W.nsIn K mainGlobals "MOST_POINTS" = some (some (.int 16 tk0))) :
    ∃ fd : FuncData, (∀ (s : Shared) (v : Value), BindsTo s fd ⟨[v], []⟩ [("script", v)]) ∧ ∀ base : Heap, K.In base → base.Ns mainGlobals mg → PySem.W.CodeHd base ct0 Tb → BMod base mg → FnOk l.prog w K mg base CX0 10 fa fd ["script"] (spT lamP lamQ Tb K Plaw) := by
  have e := hfa.symm.trans (PySem.W.mg_of X G a32)
  cases e
  have T : Txt K mg := ⟨PySem.W.mg_none_of X G z0, PySem.W.mg_none_of X G z1, PySem.W.mg_none_of X G z2, PySem.W.mg_none_of X G z3, PySem.W.mg_none_of X G z4, PySem.W.mg_none_of X G z5, PySem.W.mg_none_of X G z6, PySem.W.mg_none_of X G z7, PySem.W.mg_none_of X G z8, PySem.W.mg_none_of X G z9, PySem.W.mg_none_of X G z10, PySem.W.mg_none_of X G z11, PySem.W.mg_none_of X G z12, PySem.W.mg_none_of X G z13, PySem.W.mg_none_of X G z14, PySem.W.mg_none_of X G z15, PySem.W.mg_none_of X G z16, PySem.W.mg_none_of X G z17, PySem.W.mg_none_of X G z18, y0, y1, y2, y3, y4, y5, y6, y7, y8, y9, y10, y11, y12, y13⟩
  have Z : XT K mg x0 := ⟨⟨ax0, PySem.W.mg_of X G ax0, bx0⟩, ⟨_, PySem.W.mg_of X G ag0⟩⟩
  have F32 := fun_mk (st := sLaw) l32 c32 k32
  refine ⟨PySem.W.fnOf "law" "law" (defArgs sLaw) (defBody sLaw) (defScope sLaw) .none kV32 dc32 pm32 an32 cd32 ct32, fun s v => .of_eq rfl, fun base _ _ C bm => ?_⟩
  have GSt : Fn l.prog w K mg base "_law_stir" 1 ["cell"] (spStir) := h1.fn X G (bd1 fun _ _ _ _ _ _ _ => rfl) fun F => ok_stir F
  have GDSt : Fn l.prog w K mg base "_law_stir" 1 ["cell"] (spG K Pstir) := fn_cv GSt fun _ _ _ _ => cv_stir
  have GCl : Fn l.prog w K mg base "_law_cell" 2 ["script", "k"] (spCell K) := h2.fn X G (bd2 fun _ _ _ _ _ _ _ _ => rfl) fun F => ok_cell F T GSt
  have GDCl : Fn l.prog w K mg base "_law_cell" 2 ["script", "k"] (spG K Pcell) := fn_cv GCl fun _ _ _ _ => cv_cell
  have GRw : Fn l.prog w K mg base "_law_raw" 1 ["script", "k"] (spCell K) := h3.fn X G (bd2 fun _ _ _ _ _ _ _ _ => rfl) fun F => ok_raw F T
  have GDRw : Fn l.prog w K mg base "_law_raw" 1 ["script", "k"] (spG K Pcell) := fn_cv GRw fun _ _ _ _ => cv_cell
  have GDr : Fn l.prog w K mg base "_law_draw" 1 ["cell", "k", "bound"] (spDraw) := h4.fn X G (bd3 fun _ _ _ _ _ _ _ _ _ => rfl) fun F => ok_draw F
  have GDDr : Fn l.prog w K mg base "_law_draw" 1 ["cell", "k", "bound"] (spG K Pdraw) := fn_cv GDr fun _ _ _ _ => cv_draw
  have GCd : Fn l.prog w K mg base "_law_closed" 1 ["many", "pairs"] (spClosed K) := h5.fn X G (bd2 fun _ _ _ _ _ _ _ _ => rfl) fun F => ok_closed F T
  have GDg : Fn l.prog w K mg base "_law_by_digits" 2 ["cell", "most"] (spDig K) := h6.fn X G (bd2 fun _ _ _ _ _ _ _ _ => rfl) fun F => ok_dig F T GCd
  have GMx : Fn l.prog w K mg base "_law_mixed" 2 ["cell", "most"] (spDig K) := h7.fn X G (bd2 fun _ _ _ _ _ _ _ _ => rfl) fun F => ok_mix F T GCd GDr
  have GSp : Fn l.prog w K mg base "_law_space" 3 ["script", "at", "most"] (spSpace K) := h8.fn X G (bd3 fun _ _ _ _ _ _ _ _ _ => rfl) fun F => ok_space F GRw GSt GDg GMx
  have GDSp : Fn l.prog w K mg base "_law_space" 3 ["script", "at", "most"] (spG K Pspace) := fn_cv GSp fun _ _ _ _ => cv_space
  have GPt : Fn l.prog w K mg base "is_point" 1 ["many", "number"] (spPoint) := h9.fn X G (bd2 fun _ _ _ _ _ _ _ _ => rfl) fun F => ok_point F
  have GDPt : Fn l.prog w K mg base "is_point" 1 ["many", "number"] (spG K Ppoint) := fn_cv GPt fun _ _ _ _ => cv_point
  have GSm : Fn l.prog w K mg base "same_or_under" 1 ["space", "a", "b"] (spLeq K) := h10.fn X G (bd3 fun _ _ _ _ _ _ _ _ _ => rfl) fun F => ok_same F
  have GDSm : Fn l.prog w K mg base "same_or_under" 1 ["space", "a", "b"] (spG K Pleq) := fn_cv GSm fun _ _ _ _ => cv_leq
  have GPu : Fn l.prog w K mg base "points_under" 1 ["space", "point"] (spG K Ppu) := h11.fn X G (bd2 fun _ _ _ _ _ _ _ _ => rfl) fun F => ok_Pu F T
  have GPo : Fn l.prog w K mg base "points_over" 1 ["space", "point"] (spG K Ppo) := h12.fn X G (bd2 fun _ _ _ _ _ _ _ _ => rfl) fun F => ok_Po F T
  have GLw : Fn l.prog w K mg base "lowest" 2 ["space", "points"] (spG K Plow) := h13.fn X G (bd2 fun _ _ _ _ _ _ _ _ => rfl) fun F => ok_Lw F T GDSm
  have GHg : Fn l.prog w K mg base "highest" 2 ["space", "points"] (spG K Phigh) := h14.fn X G (bd2 fun _ _ _ _ _ _ _ _ => rfl) fun F => ok_Hg F T GDSm
  have GGo : Fn l.prog w K mg base "goal" 3 ["space", "point"] (spG K Pgoal) := h15.fn X G (bd2 fun _ _ _ _ _ _ _ _ => rfl) fun F => ok_Go F T GDPt GPu GPo GLw GHg
  have GLg : Fn l.prog w K mg base "_law_goal" 1 ["space", "point"] (spG K PgoalA) := h16.fn X G (bd2 fun _ _ _ _ _ _ _ _ => rfl) fun F => ok_Lg F T
  have GLf : Fn l.prog w K mg base "_law_foldable" 2 ["space"] (spG K Pfoldable) := h17.fn X G (bd1 fun _ _ _ _ _ _ _ => rfl) fun F => ok_Lf F T GLg
  have GCu : Fn l.prog w K mg base "closed_up" 1 ["number", "gone"] (spG K Pcu) := h18.fn X G (bd2 fun _ _ _ _ _ _ _ _ => rfl) fun F => ok_Cu F T
  have GWo : Fn l.prog w K mg base "without" 2 ["space", "point"] (spG K Pwo) := h19.fn X G (bd2 fun _ _ _ _ _ _ _ _ => rfl) fun F => ok_Wo F T GCu
  have GLo : Fn l.prog w K mg base "_law_without" 1 ["space", "point"] (spG K Plwo) := h20.fn X G (bd2 fun _ _ _ _ _ _ _ _ => rfl) fun F => ok_Lo F T
  have GFo : Fn l.prog w K mg base "folded" 4 ["space", "point"] (spG K Pfolded) := h21.fn X G (bd2 fun _ _ _ _ _ _ _ _ => rfl) fun F => ok_Fo F T GGo GWo
  have GAl : Fn l.prog w K mg base "along" 5 ["space", "row"] (spG K Palong) := h22.fn X G (bd2 fun _ _ _ _ _ _ _ _ => rfl) fun F => ok_Al F T GFo
  have GDw : Fn l.prog w K mg base "_law_drawn_row" 3 ["space", "script", "at"] (spG K Pdrawn) := h23.fn X G (bd3 fun _ _ _ _ _ _ _ _ _ => rfl) fun F => ok_Dw F T GDRw GDDr GDSt GLf GLo
  have GPc : Fn l.prog w K mg base "piece_of" 2 ["space", "point"] (spG K Ppc) := h24.fn X G (bd2 fun _ _ _ _ _ _ _ _ => rfl) fun F => ok_Pc F T GPu GPo
  have GPs : Fn l.prog w K mg base "pieces" 3 ["space"] (spG K Ppcs) := h25.fn X G (bd1 fun _ _ _ _ _ _ _ => rfl) fun F => ok_Ps F T GPc
  have F26 := fun_mk (st := s_from_below) l26 c26 k26
  have GFb : FnT l.prog w K mg base "from_below" 5 ["space"] lamP lamQ Tb (Pfb) := ⟨_, _, ok_Fb F26 rfl T C bm GPu, PySem.W.mg_of X G a26, k26, F26.binds (bd1 fun _ _ _ _ _ _ _ => rfl)⟩
  have GEc : FnT l.prog w K mg base "even_count" 6 ["space"] lamP lamQ Tb (Pec) := h27.fnT X G (bd1 fun _ _ _ _ _ _ _ => rfl) fun F => ok_Ec F T Z GFb GPu
  have GRf : Fn l.prog w K mg base "refuse_too_many" 1 ["many"] (spG K Pref) := h28.fn X G (bd1 fun _ _ _ _ _ _ _ => rfl) fun F => ok_Rf F T Z
  have GBs : Fn l.prog w K mg base "beside" 2 ["one", "other"] (spG K Pbes) := h29.fn X G (bd2 fun _ _ _ _ _ _ _ _ => rfl) fun F => ok_Bs F T GRf
  have GTu : Fn l.prog w K mg base "turned" 1 ["space"] (spG K Pturn) := h30.fn X G (bd1 fun _ _ _ _ _ _ _ => rfl) fun F => ok_Tu F T
  have GTp : Fn l.prog w K mg base "topped" 2 ["space"] (spG K Ptop) := h31.fn X G (bd1 fun _ _ _ _ _ _ _ => rfl) fun F => ok_Tp F T GRf
  exact ok_Law F32 T Z GDSp GDCl GDw GAl GPs GEc GTu GBs GTp
theorem walk {l : PySem.W.OpenLaw} {q : Program} {loose : List Str} {XP : (Str → Option Value) → Heap → Prop} {YP : World → Heap → Prop} {d : DefRec} {K : Params → PySem.W.Frag} {ct0 Tb : Addr} (hn : l.most = some 63) (hdf : d.params.defaults = [])
    (hY : ∀ (w : World) (h : Heap), YP w h → (K w.params).In h) (hT0 : ∀ (w : World) (h : Heap), YP w h → h.get? Tb = some (PySem.W.tabObj #[])) (hC0 : ∀ p : Params, PySem.W.codeHdIn (K p) ct0 Tb = true) (hKT : ∀ p : Params, (K p).lookup Tb = none)
    (F : ∀ (w : World) (mg : Str → Option Value) (fa : Addr) (h : Heap), (K w.params).In h → h.Ns mainGlobals mg → mg d.name = some (.ref fa) →
      ∃ fd : FuncData, (∀ (s : Shared) (u : Value), BindsTo s fd ⟨[u], []⟩ [("script", u)]) ∧ ∀ base : Heap, (K w.params).In base → base.Ns mainGlobals mg → PySem.W.CodeHd base ct0 Tb → BMod base mg → FnOk l.prog w (K w.params) mg base CX0 10 fa fd ["script"] (spT lamP lamQ Tb (K w.params) Plaw)) :
    PySem.W.WalkO q loose XP YP l.row.toRowW d [] (fun f vs => PySem.call f vs) :=
  L2.walk_ofT (n := 63) (k := 10) (x := "script") (CX := CX0) (sp := fun K T => spT lamP lamQ T K Plaw) hn (by decide) hdf ⟨rfl, by decide, by decide⟩ hY hT0 hC0 hKT F
    (fun _ _ a ns hl hO hS => ⟨[scrD ns], fun dt => dt = .d (.bool true), ⟨#[], hO.1, .inl rfl⟩, .cons (.scr hS) .nil, ⟨ns, rfl, hl, rfl⟩, fun dt v R' H' e _ _ sl => by subst e; exact Rp.bl_inv sl⟩) fun _ _ _ _ z => z
end Me
open PySem PySem.W PyProof.Rows
set_option maxRecDepth 100000 in
set_option maxHeartbeats 0 in
theorem PySem.Challenge.cw_fewpoints_k13_whole_counts_stay_holds : PySem.Challenge.rw_fewpoints_k13_whole_counts_stay.Holds := by
  w_on; o_law; k_head; (case hw => w_witness2)
  k_fill
  refine' Me.walk (l := PySem.Challenge.rw_fewpoints_k13_whole_counts_stay) (ct0 := ?ct0) rfl rfl (fun w h Y => PySem.W.km_in_of Y) (fun w h Y => PySem.W.km_tabs_of Y _ List.mem_cons_self) ?hk ?hk2 ?F
  case F =>
    intro w mg fa h KX G hmg
    refine' Me.all_mk KX G hmg ?h1 ?h2 ?h3 ?h4 ?h5 ?h6 ?h7 ?h8 ?h9 ?h10 ?h11 ?h12 ?h13 ?h14 ?h15 ?h16 ?h17 ?h18 ?h19 ?h20 ?h21 ?h22 ?h23 ?h24 ?h25 ?a26 ?l26 ?c26 ?k26 ?h27 ?h28 ?h29 ?h30 ?h31 ?a32 ?l32 ?c32 ?k32 ?z0 ?z1 ?z2 ?z3 ?z4 ?z5 ?z6 ?z7 ?z8 ?z9 ?z10 ?z11 ?z12 ?z13 ?z14 ?z15 ?z16 ?z17 ?z18 ?y0 ?y1 ?y2 ?y3 ?y4 ?y5 ?y6 ?y7 ?y8 ?y9 ?y10 ?y11 ?y12 ?y13 ?ax0 ?bx0 ?ag0
    (case h1 => refine' Me.HasFn.mk ?a ?l ?c ?k; (case a => k_is); (case l => k_is); (case c => k_is); (case k => k_is))
    (case h2 => refine' Me.HasFn.mk ?a ?l ?c ?k; (case a => k_is); (case l => k_is); (case c => k_is); (case k => k_is))
    (case h3 => refine' Me.HasFn.mk ?a ?l ?c ?k; (case a => k_is); (case l => k_is); (case c => k_is); (case k => k_is))
    (case h4 => refine' Me.HasFn.mk ?a ?l ?c ?k; (case a => k_is); (case l => k_is); (case c => k_is); (case k => k_is))
    (case h5 => refine' Me.HasFn.mk ?a ?l ?c ?k; (case a => k_is); (case l => k_is); (case c => k_is); (case k => k_is))
    (case h6 => refine' Me.HasFn.mk ?a ?l ?c ?k; (case a => k_is); (case l => k_is); (case c => k_is); (case k => k_is))
    (case h7 => refine' Me.HasFn.mk ?a ?l ?c ?k; (case a => k_is); (case l => k_is); (case c => k_is); (case k => k_is))
    (case h8 => refine' Me.HasFn.mk ?a ?l ?c ?k; (case a => k_is); (case l => k_is); (case c => k_is); (case k => k_is))
    (case h9 => refine' Me.HasFn.mk ?a ?l ?c ?k; (case a => k_is); (case l => k_is); (case c => k_is); (case k => k_is))
    (case h10 => refine' Me.HasFn.mk ?a ?l ?c ?k; (case a => k_is); (case l => k_is); (case c => k_is); (case k => k_is))
    (case h11 => refine' Me.HasFn.mk ?a ?l ?c ?k; (case a => k_is); (case l => k_is); (case c => k_is); (case k => k_is))
    (case h12 => refine' Me.HasFn.mk ?a ?l ?c ?k; (case a => k_is); (case l => k_is); (case c => k_is); (case k => k_is))
    (case h13 => refine' Me.HasFn.mk ?a ?l ?c ?k; (case a => k_is); (case l => k_is); (case c => k_is); (case k => k_is))
    (case h14 => refine' Me.HasFn.mk ?a ?l ?c ?k; (case a => k_is); (case l => k_is); (case c => k_is); (case k => k_is))
    (case h15 => refine' Me.HasFn.mk ?a ?l ?c ?k; (case a => k_is); (case l => k_is); (case c => k_is); (case k => k_is))
    (case h16 => refine' Me.HasFn.mk ?a ?l ?c ?k; (case a => k_is); (case l => k_is); (case c => k_is); (case k => k_is))
    (case h17 => refine' Me.HasFn.mk ?a ?l ?c ?k; (case a => k_is); (case l => k_is); (case c => k_is); (case k => k_is))
    (case h18 => refine' Me.HasFn.mk ?a ?l ?c ?k; (case a => k_is); (case l => k_is); (case c => k_is); (case k => k_is))
    (case h19 => refine' Me.HasFn.mk ?a ?l ?c ?k; (case a => k_is); (case l => k_is); (case c => k_is); (case k => k_is))
    (case h20 => refine' Me.HasFn.mk ?a ?l ?c ?k; (case a => k_is); (case l => k_is); (case c => k_is); (case k => k_is))
    (case h21 => refine' Me.HasFn.mk ?a ?l ?c ?k; (case a => k_is); (case l => k_is); (case c => k_is); (case k => k_is))
    (case h22 => refine' Me.HasFn.mk ?a ?l ?c ?k; (case a => k_is); (case l => k_is); (case c => k_is); (case k => k_is))
    (case h23 => refine' Me.HasFn.mk ?a ?l ?c ?k; (case a => k_is); (case l => k_is); (case c => k_is); (case k => k_is))
    (case h24 => refine' Me.HasFn.mk ?a ?l ?c ?k; (case a => k_is); (case l => k_is); (case c => k_is); (case k => k_is))
    (case h25 => refine' Me.HasFn.mk ?a ?l ?c ?k; (case a => k_is); (case l => k_is); (case c => k_is); (case k => k_is))
    (case a26 => k_is)
    (case l26 => k_is)
    (case c26 => k_is)
    (case k26 => k_is)
    (case h27 => refine' Me.HasFn.mk ?a ?l ?c ?k; (case a => k_is); (case l => k_is); (case c => k_is); (case k => k_is))
    (case h28 => refine' Me.HasFn.mk ?a ?l ?c ?k; (case a => k_is); (case l => k_is); (case c => k_is); (case k => k_is))
    (case h29 => refine' Me.HasFn.mk ?a ?l ?c ?k; (case a => k_is); (case l => k_is); (case c => k_is); (case k => k_is))
    (case h30 => refine' Me.HasFn.mk ?a ?l ?c ?k; (case a => k_is); (case l => k_is); (case c => k_is); (case k => k_is))
    (case h31 => refine' Me.HasFn.mk ?a ?l ?c ?k; (case a => k_is); (case l => k_is); (case c => k_is); (case k => k_is))
    (case a32 => k_is)
    (case l32 => k_is)
    (case c32 => k_is)
    (case k32 => k_is)
    (case z0 => k_is)
    (case z1 => k_is)
    (case z2 => k_is)
    (case z3 => k_is)
    (case z4 => k_is)
    (case z5 => k_is)
    (case z6 => k_is)
    (case z7 => k_is)
    (case z8 => k_is)
    (case z9 => k_is)
    (case z10 => k_is)
    (case z11 => k_is)
    (case z12 => k_is)
    (case z13 => k_is)
    (case z14 => k_is)
    (case z15 => k_is)
    (case z16 => k_is)
    (case z17 => k_is)
    (case z18 => k_is)
    (case y0 => kit_is)
    (case y1 => kit_is)
    (case y2 => kit_is)
    (case y3 => kit_is)
    (case y4 => kit_is)
    (case y5 => kit_is)
    (case y6 => kit_is)
    (case y7 => kit_is)
    (case y8 => kit_is)
    (case y9 => kit_is)
    (case y10 => kit_is)
    (case y11 => kit_is)
    (case y12 => kit_is)
    (case y13 => kit_is)
    (case ax0 => k_is)
    (case bx0 => kernel_rfl)
    (case ag0 => k_is)
  case hk => intro p; kernel_rfl
  case hk2 => intro p; kernel_rfl
