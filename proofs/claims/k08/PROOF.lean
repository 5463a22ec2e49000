import PyProof.Rows.All
import Wide.All
import OpenK.AllK
import Wide.FinOn
import Lean
import PyProof.EqAt
import PyProof.EqKinds
import PyProof.TupleCall
import PyProof.NeData
import PyProof.P3In
import PyProof.EnumFor
import PyProof.EnumMake
import PyProof.SliceStr2
import PyProof.StrBlock2
import KE.KEqDict
import PyProof.NsDelKeeps
import PyProof.Rows.SetFrom
import PyProof.FactsAll.subtypes_4
import KE.KRevSl
import PyProof.Rows.SumAny
import PySem.Challenge.RW_callfold_k08_rows_and_calls_read
set_option Elab.async false
set_option linter.all false
set_option maxRecDepth 100000
theorem obi {α β : Type _} {o : Option α} {f : α → Option β} {b : β} : o.bind f = some b → ∃ a, o = some a ∧ f a = some b := Option.bind_eq_some_iff.mp
theorem omi {α β : Type _} {o : Option α} {f : α → β} {b : β} : o.map f = some b → ∃ a, o = some a ∧ f a = b := Option.map_eq_some_iff.mp
namespace L2
open PySem PySem.Spec PyProof.Rows
abbrev Key := Sum Int Str
def keyIs : Key → Value → Bool
  | .inl k, v => Value.isInt k v
  | .inr x, v => Value.isStrOf x v
def keyH (w : World) : Key → Int
  | .inl k => hashInt k
  | .inr x => hashStr w x
theorem keyIs_shape : ∀ {k : Key} {v : Value}, keyIs k v = true → (∃ i t, k = Sum.inl i ∧ v = Value.int i t) ∨ (∃ x t, k = Sum.inr x ∧ v = Value.str x t)
  | .inl i, v, h => by
    obtain ⟨t, e⟩ := Value.isInt_shape (k := i) (v := v) h
    exact .inl ⟨i, t, rfl, e⟩
  | .inr x, v, h => by
    obtain ⟨t, e⟩ := Value.isStrOf_shape (x := x) (v := v) h
    exact .inr ⟨x, t, rfl, e⟩
theorem keyIs_int (i : Int) (t : Tok) : keyIs (.inl i) (.int i t) = true := by simp [keyIs, Value.isInt]
theorem keyIs_str (x : Str) (t : Tok) : keyIs (.inr x) (.str x t) = true := by simp [keyIs, Value.isStrOf]
theorem key_ll (a b : Int) : decide ((Sum.inl a : Key) = Sum.inl b) = (a == b) := by
  by_cases e : a = b
  · subst e; simp
  · have h : ¬ (Sum.inl a : Key) = Sum.inl b := fun q => e (Sum.inl.inj q)
    rw [decide_eq_false h]
    exact (beq_eq_false_iff_ne.mpr e).symm
theorem key_rr (a b : Str) : decide ((Sum.inr a : Key) = Sum.inr b) = decide (a = b) := by
  by_cases e : a = b
  · subst e; simp
  · have h : ¬ (Sum.inr a : Key) = Sum.inr b := fun q => e (Sum.inr.inj q)
    rw [decide_eq_false h, decide_eq_false e]
theorem key_lr (a : Int) (b : Str) : decide ((Sum.inl a : Key) = Sum.inr b) = false := decide_eq_false (fun q => nomatch q)
theorem key_rl (a : Str) (b : Int) : decide ((Sum.inr a : Key) = Sum.inl b) = false := decide_eq_false (fun q => nomatch q)
def mixKind (prog : Program) (w : World) : PySem.KeyKind prog w Key where
  is := keyIs
  hash := keyH w
  inj := fun v a b ha hb => by
    rcases keyIs_shape ha with ⟨i, t, rfl, rfl⟩ | ⟨x, t, rfl, rfl⟩
    · rcases keyIs_shape hb with ⟨j, u, rfl, e⟩ | ⟨y, u, rfl, e⟩
      · injection e with e1 _; rw [e1]
      · exact nomatch e
    · rcases keyIs_shape hb with ⟨j, u, rfl, e⟩ | ⟨y, u, rfl, e⟩
      · exact nomatch e
      · injection e with e1 _; rw [e1]
  byValue := fun k v h => by
    rcases keyIs_shape h with ⟨i, t, rfl, rfl⟩ | ⟨x, t, rfl, rfl⟩ <;> rfl
  pyHash := fun hv h => by
    rcases keyIs_shape hv with ⟨i, t, rfl, rfl⟩ | ⟨x, t, rfl, rfl⟩
    · exact wpAny_pyHash_int h
    · exact wpAny_pyHash_str h
  eqBool := fun hu hv h => by
    rcases keyIs_shape hu with ⟨i, t, rfl, rfl⟩ | ⟨x, t, rfl, rfl⟩
    · rcases keyIs_shape hv with ⟨j, u, rfl, rfl⟩ | ⟨y, u, rfl, rfl⟩
      · rw [key_ll] at h; exact wpAny_eqBool_int h
      · rw [key_lr] at h; exact SeqAt.EqAt.int_str i t y u _ _ _ _ h
    · rcases keyIs_shape hv with ⟨j, u, rfl, rfl⟩ | ⟨y, u, rfl, rfl⟩
      · rw [key_rl] at h; exact SeqAt.EqAt.str_int x t j u _ _ _ _ h
      · rw [key_rr] at h; exact wpAny_eqBool_str h
  «strs» := fun k x t v h => by
    rcases keyIs_shape h with ⟨i, u, rfl, e⟩ | ⟨y, u, rfl, e⟩
    · exact nomatch e
    · injection e with e1 _
      subst e1
      cases v <;> rfl
theorem mixKind_int (prog : Program) (w : World) (i : Int) (t : Tok) : (mixKind prog w).is (.inl i) (.int i t) = true := keyIs_int i t
theorem mixKind_str (prog : Program) (w : World) (x : Str) (t : Tok) : (mixKind prog w).is (.inr x) (.str x t) = true := keyIs_str x t
end L2
namespace L2
open PySem PySem.Spec PyProof.Rows
inductive V where
  | non | bl (b : Bool) | int (i : Int) | str (x : Str) | byt (b : Array UInt8) | flt (b : UInt64) | ref (a : Addr) | ty (n : String)
  deriving DecidableEq
def RelV : V → Value → Prop
  | .non, u => u = Value.none
  | .bl b, u => u = Value.bool b
  | .int i, u => ∃ t, u = Value.int i t
  | .str x, u => ∃ t, u = Value.str x t
  | .byt b, u => ∃ t, u = Value.bytes b t
  | .flt b, u => ∃ t, u = Value.float b t
  | .ref a, u => u = Value.ref a
  | .ty n, u => u = Value.type n
abbrev Vals : List V → List Value → Prop := Paired RelV
theorem Vals.length {xs : List V} {us : List Value} (r : Vals xs us) : xs.length = us.length := Paired.length r
theorem Vals.get : ∀ {xs : List V} {us : List Value} {i : Nat} {x : V}, Vals xs us → xs[i]? = some x → ∃ u, us[i]? = some u ∧ RelV x u
  | _, _, _, _, .nil, e => by simp at e
  | _, _, 0, _, .cons r _, e => by simp at e; subst e; exact ⟨_, rfl, r⟩
  | _, _, i + 1, x, .cons _ t, e => by
    obtain ⟨u, h1, h2⟩ := Vals.get (i := i) (x := x) t (by simpa using e)
    exact ⟨u, by simpa using h1, h2⟩
theorem Vals.set {x : V} {u : Value} (r : RelV x u) : ∀ {xs : List V} {us : List Value} (i : Nat), Vals xs us → Vals (xs.set i x) (us.set i u)
  | _, _, _, .nil => .nil
  | _, _, 0, .cons _ t => .cons r t
  | _, _, i + 1, .cons q t => .cons q (Vals.set r i t)
theorem Vals.append : ∀ {xs ys : List V} {us ws : List Value}, Vals xs us → Vals ys ws → Vals (xs ++ ys) (us ++ ws)
  | _, _, _, _, .nil, s => s
  | _, _, _, _, .cons r t, s => .cons r (Vals.append t s)
theorem Vals.take : ∀ {xs : List V} {us : List Value} (n : Nat), Vals xs us → Vals (xs.take n) (us.take n)
  | _, _, 0, _ => .nil
  | _, _, _ + 1, .nil => .nil
  | _, _, n + 1, .cons r t => .cons r (Vals.take n t)
theorem Vals.drop : ∀ {xs : List V} {us : List Value} (n : Nat), Vals xs us → Vals (xs.drop n) (us.drop n)
  | _, _, 0, r => r
  | _, _, _ + 1, .nil => .nil
  | _, _, n + 1, .cons _ t => Vals.drop n t
def RelO : Option V → Option Value → Prop
  | some v, some u => RelV v u
  | none, none => True
  | _, _ => False
def KV {κ : Type} : List (κ × V) → List (κ × Value) → Prop := Paired fun (p : κ × V) (q : κ × Value) => p.1 = q.1 ∧ RelV p.2 q.2
def kV : Key → V
  | .inl i => .int i
  | .inr x => .str x
inductive HO where
  | lst (xs : List V)
  | tup (xs : List V)
  | dK (kvs : List (Key × V)) | dT (kvs : List (List Key × V))
  | set (S : Int → Bool) (n : Nat)
  | ins (C dx : Addr) (fs : List (Str × V))
  | own (x : Addr)
  | xd (fs : List (Str × V))
  | met (f x : Addr)
  | rng (lo hi : Int)
  | frz (o : Obj) (u : HO)
  | tbl (ps : Array Value)
  | ext (φ : Heap → Prop)
abbrev Hp := Addr → Option HO
def upd (H : Hp) (a : Addr) (o : HO) : Hp := fun b => if b = a then some o else H b
theorem upd_same {H : Hp} {a : Addr} {o : HO} : upd H a o a = some o := by unfold upd; rw [if_pos rfl]
theorem upd_ne {H : Hp} {a b : Addr} {o : HO} (h : b ≠ a) : upd H a o b = H b := by unfold upd; rw [if_neg h]
theorem ne_of {H : Hp} {a b : Addr} {o u : HO} (h : H a = some o) (h' : H b = some u) (d : o ≠ u) : a ≠ b := by
  intro e; subst e; rw [h] at h'; exact d (Option.some.inj h')
theorem ne_of_none {H : Hp} {a b : Addr} {o : HO} (h : H a = some o) (h' : H b = none) : a ≠ b := by
  intro e; subst e; rw [h] at h'; cases h'
section
variable (P : Program) (w : World)
def ObjOk (H : Hp) (h : Heap) (a : Addr) : HO → Prop
  | .lst xs => xs.length ≤ sizeLine ∧ ∃ (its : List Value) (n : Nat), Vals xs its ∧ h.get? a = some { cls := .type "list", data := .seq its.toArray n }
  | .tup xs => xs.length ≤ sizeLine ∧ ∃ its : List Value, Vals xs its ∧ IsTup h a its.toArray
  | .dK kvs => kvs.length ≤ sizeLine ∧ (a == sysModules) = false ∧ ∃ vs, KV kvs vs ∧ h.DictOf (mixKind P w) a vs
  | .dT kvs => kvs.length ≤ sizeLine ∧ (a == sysModules) = false ∧ ∃ xs : List (List Key × Addr × Value),
      Paired (fun (p : List Key × V) (q : List Key × Addr × Value) => p.1 = q.1 ∧ H q.2.1 = some (.tup (p.1.map kV)) ∧ RelV p.2 q.2.2) kvs xs ∧
      ∃ o es ep, h.get? a = some o ∧ o.ExactDict ∧ o.data = .dict es ep ∧ es.toList = xs.map (entryOfKey (tupleKind (mixKind P w))) ∧ (xs.map (·.1)).Nodup
  | .set S n => h.SetOf (intKind P w) a S n
  | .ins C dx fs => H dx = some (.own a) ∧ fs.length ≤ 1000 ∧ dx ≠ a ∧ h.get? a = some (PySem.W.instObj C dx) ∧
      ∃ mA, h.Ns1 dx mA ∧ (∀ f, RelO (fs.lookup f) (mA f)) ∧ PySem.Within mA (fs.map (·.1))
  | .own _ => ∃ o, h.get? a = some o
  | .xd fs => ∃ mA, h.Ns1 a mA ∧ ∀ f, RelO (fs.lookup f) (mA f)
  | .rng lo hi => ∃ t u v, h.get? a = some { cls := .type "range", data := .fields #[.int lo t, .int hi u, .int 1 v] }
  | .frz o u => h.get? a = some o ∧ ObjOk H h a u
  | .tbl ps => h.get? a = some { cls := .none, data := .fields ps }
  | .met f x => h.get? a = some (PySem.W.methodObj (.ref f) (.ref x))
  | .ext φ => φ h ∧ (∃ o, h.get? a = some o) ∧ ∀ h1 h2 : Heap, φ h1 → (∀ o, h1.get? a = some o → h2.get? a = some o) → φ h2
def HOk (H : Hp) (h : Heap) : Prop := ∀ a o, H a = some o → ObjOk P w H h a o
end
section
variable {P : Program} {w : World} {H H' : Hp} {h h' : Heap} {a : Addr} {o : HO}
theorem ObjOk.lt (x : ObjOk P w H h a o) : a < h.objs.size := by
  cases o with
  | lst xs => obtain ⟨_, _, _, _, e⟩ := x; exact Heap.lt_size e
  | tup xs => obtain ⟨_, _, _, p⟩ := x; exact p.lt
  | dK kvs => obtain ⟨_, _, _, _, o, _, _, e, _⟩ := x; exact Heap.lt_size e
  | dT kvs => obtain ⟨_, _, _, _, o, _, _, e, _⟩ := x; exact Heap.lt_size e
  | set S n => obtain ⟨o, _, _, _, e, _⟩ := x; exact Heap.lt_size e
  | ins C dx fs => obtain ⟨_, _, _, e, _⟩ := x; exact Heap.lt_size e
  | own y => obtain ⟨_, e⟩ := x; exact Heap.lt_size e
  | xd fs => obtain ⟨_, ⟨_, _, _, e, _⟩, _⟩ := x; exact Heap.lt_size e
  | rng lo hi => obtain ⟨_, _, _, e⟩ := x; exact Heap.lt_size e
  | frz ob u => obtain ⟨e, _⟩ := x; exact Heap.lt_size e
  | tbl ps => exact Heap.lt_size (show h.get? a = some _ from x)
  | met f y => exact Heap.lt_size (show h.get? a = some _ from x)
  | ext φ => obtain ⟨_, ⟨_, e⟩, _⟩ := x; exact Heap.lt_size e
theorem Paired.mapP {α β : Type} {F G : α → β → Prop} : ∀ {l₁ : List α} {l₂ : List β}, Paired F l₁ l₂ → (∀ a b, F a b → G a b) → Paired G l₁ l₂
  | _, _, .nil, _ => .nil
  | _, _, .cons r t, f => .cons (f _ _ r) (Paired.mapP t f)
theorem ObjOk.stay (x : ObjOk P w H h a o) (k : ∀ b u, (b = a ∨ H b = some (.own a)) → h.get? b = some u → h'.get? b = some u)
    (ho : ∀ b, H b = some (.own a) → H' b = some (.own a)) (ht : ∀ b xs, H b = some (.tup xs) → H' b = some (.tup xs)) : ObjOk P w H' h' a o := by
  induction o with
  | lst xs => obtain ⟨z, its, n, r, e⟩ := x; exact ⟨z, its, n, r, k _ _ (.inl rfl) e⟩
  | tup xs => obtain ⟨z, its, r, ob, e, c⟩ := x; exact ⟨z, its, r, ob, k _ _ (.inl rfl) e, c⟩
  | dK kvs => obtain ⟨z, y, vs, r, ob, es, ep, e, c⟩ := x; exact ⟨z, y, vs, r, ob, es, ep, k _ _ (.inl rfl) e, c⟩
  | dT kvs =>
    obtain ⟨z, y, xs, r, ob, es, ep, e, c⟩ := x
    exact ⟨z, y, xs, Paired.mapP r fun p q z => ⟨z.1, ht _ _ z.2.1, z.2.2⟩, ob, es, ep, k _ _ (.inl rfl) e, c⟩
  | set S n => obtain ⟨ob, es, ep, t, e, c⟩ := x; exact ⟨ob, es, ep, t, k _ _ (.inl rfl) e, c⟩
  | ins C dx fs =>
    obtain ⟨d, z, ne, e, mA, ⟨od, es, ep, e2, c⟩, r⟩ := x
    exact ⟨ho _ d, z, ne, k _ _ (.inl rfl) e, mA, ⟨od, es, ep, k _ _ (.inr d) e2, c⟩, r⟩
  | own y => obtain ⟨ob, e⟩ := x; exact ⟨ob, k _ _ (.inl rfl) e⟩
  | xd fs => obtain ⟨mA, ⟨od, es, ep, e, c⟩, r⟩ := x; exact ⟨mA, ⟨od, es, ep, k _ _ (.inl rfl) e, c⟩, r⟩
  | rng lo hi => obtain ⟨t, u, v, e⟩ := x; exact ⟨t, u, v, k _ _ (.inl rfl) e⟩
  | frz ob u ih => obtain ⟨e, q⟩ := x; exact ⟨k _ _ (.inl rfl) e, ih q⟩
  | tbl ps =>
    have e : h.get? a = some { cls := .none, data := .fields ps } := x
    show h'.get? a = some { cls := .none, data := .fields ps }
    exact k a _ (.inl rfl) e
  | met f y =>
    have e : h.get? a = some (PySem.W.methodObj (.ref f) (.ref y)) := x
    show h'.get? a = some (PySem.W.methodObj (.ref f) (.ref y))
    exact k a _ (.inl rfl) e
  | ext φ => obtain ⟨p, ⟨o, e⟩, st⟩ := x; exact ⟨st _ _ p fun o q => k _ _ (.inl rfl) q, ⟨o, k _ _ (.inl rfl) e⟩, st⟩
theorem HOk.lt (x : HOk P w H h) (e : H a = some o) : a < h.objs.size := (x a o e).lt
theorem HOk.fresh (x : HOk P w H h) (e : h.objs.size ≤ a) : H a = none := by
  cases q : H a with
  | none => rfl
  | some u => exact absurd (Nat.lt_of_lt_of_le (x.lt q) e) (Nat.lt_irrefl _)
theorem HOk.kept (x : HOk P w H h) (k : ∀ b u, h.get? b = some u → h'.get? b = some u) : HOk P w H h' := fun a o e =>
  (x a o e).stay (fun b u _ q => k b u q) (fun _ q => q) fun _ _ q => q
theorem HOk.laid (x : HOk P w H h) (k : ∀ b u, h.get? b = some u → h'.get? b = some u) (hp : h.objs.size ≤ a) (new : ObjOk P w (upd H a o) h' a o) : HOk P w (upd H a o) h' := fun b u e => by
  have hn := x.fresh hp
  by_cases hb : b = a
  · subst hb; rw [upd_same] at e; cases e; exact new
  · rw [upd_ne hb] at e
    exact (x b u e).stay (fun c v _ q => k c v q) (fun c q => by rw [upd_ne (ne_of_none q hn)]; exact q) fun c xs q => by rw [upd_ne (ne_of_none q hn)]; exact q
end
def Rd (H : Hp) (a : Addr) (u : HO) : Prop := H a = some u ∨ ∃ o, H a = some (.frz o u)
theorem Rd.of {H : Hp} {a : Addr} {u : HO} (h : H a = some u) : Rd H a u := .inl h
theorem Rd.ok {P : Program} {w : World} {H : Hp} {h : Heap} {a : Addr} {u : HO} (r : Rd H a u) (x : HOk P w H h) : ObjOk P w H h a u := by
  rcases r with r | ⟨o, r⟩
  · exact x a u r
  · obtain ⟨_, q⟩ := x a _ r
    exact q
def Mut : Option HO → Prop
  | some (.lst _) => True
  | some (.dK _) => True
  | some (.dT _) => True
  | some (.set _ _) => True
  | some (.ins _ _ _) => True
  | some (.ext _) => True
  | _ => False
section
variable {P : Program} {w : World} {H : Hp} {h h' : Heap} {x e : Addr} {o' : HO}
theorem HOk.write (ok : HOk P w H h) (mu : Mut (H x)) (he : e = x ∨ H e = some (.own x)) (k : ∀ b u, b ≠ e → h.get? b = some u → h'.get? b = some u) (heo : ∃ u, h'.get? e = some u)
    (new : ObjOk P w (upd H x o') h' x o') : HOk P w (upd H x o') h' := fun b u q => by
  have nown : ∀ c y, H c = some (.own y) → c ≠ x := fun c y r z => by subst z; rw [r] at mu; exact mu
  have ntup : ∀ c xs, H c = some (.tup xs) → c ≠ x := fun c xs r z => by subst z; rw [r] at mu; exact mu
  by_cases hb : b = x
  · subst hb; rw [upd_same] at q; cases q; exact new
  · rw [upd_ne hb] at q
    by_cases hbe : b = e
    · have q' : H b = some (.own x) := by
        rcases he with z | z
        · exact absurd (hbe.trans z) hb
        · rw [hbe]; exact z
      rw [q] at q'; cases q'
      obtain ⟨v, hv⟩ := heo
      exact ⟨v, by rw [hbe]; exact hv⟩
    · refine (ok b u q).stay (fun c v hc r => k c v ?_ r) (fun c r => by rw [upd_ne (nown c b r)]; exact r) fun c xs r => by rw [upd_ne (ntup c xs r)]; exact r
      rcases hc with rfl | hc
      · exact hbe
      · rintro rfl
        rcases he with z | z
        · exact nown c b hc z
        · rw [hc] at z; cases z; exact hb rfl
end
structure Un (fs ex : List Addr) (H H' : Hp) (h h' : Heap) : Prop where
  keep : ∀ b o, h.get? b = some o → H b = none → b ∉ fs → b ∉ ex → h'.get? b = some o
  slot : ∀ b o, h.get? b = some o → H b = none → b ∈ fs → b ∉ ex → ∃ sl, h'.get? b = some { o with slots := sl }
  free : ∀ b o, h.get? b = some o → H b = none → b ∉ ex → H' b = none
  there : ∀ b o, h.get? b = some o → b ∉ ex → ∃ o', h'.get? b = some o'
  tups : ∀ b xs, H b = some (.tup xs) → H' b = some (.tup xs)
  frzs : ∀ b o u, H b = some (.frz o u) → H' b = some (.frz o u)
  tbls : ∀ b ps, H b = some (.tbl ps) → ∃ more, H' b = some (.tbl (ps ++ more))
section
variable {fs fs' ex ex' : List Addr} {H H1 H2 : Hp} {h h1 h2 h' : Heap} {a x e : Addr} {o : HO}
theorem Un.any (u : Un fs ex H H1 h h1) {b : Addr} {ob : Obj} (q : h.get? b = some ob) (n : H b = none) (hx : b ∉ ex) : ∃ sl, h1.get? b = some { ob with slots := sl } := by
  by_cases hb : b ∈ fs
  · exact u.slot b ob q n hb hx
  · exact ⟨ob.slots, u.keep b ob q n hb hx⟩
theorem Un.trans (a : Un fs ex H H1 h h1) (b : Un fs ex H1 H2 h1 h2) : Un fs ex H H2 h h2 where
  keep := fun c ob q n hc hx => b.keep c ob (a.keep c ob q n hc hx) (a.free c ob q n hx) hc hx
  slot := fun c ob q n hc hx => by
    obtain ⟨sl, e1⟩ := a.slot c ob q n hc hx
    obtain ⟨sl', e2⟩ := b.slot c _ e1 (a.free c ob q n hx) hc hx
    exact ⟨sl', e2⟩
  free := fun c ob q n hx => by
    obtain ⟨o', e1⟩ := a.there c ob q hx
    exact b.free c o' e1 (a.free c ob q n hx) hx
  there := fun c ob q hx => by
    obtain ⟨o', e1⟩ := a.there c ob q hx
    exact b.there c o' e1 hx
  tups := fun c xs q => b.tups c xs (a.tups c xs q)
  frzs := fun c ob xs q => b.frzs c ob xs (a.frzs c ob xs q)
  tbls := fun c ps q => by
    obtain ⟨m1, e1⟩ := a.tbls c ps q
    obtain ⟨m2, e2⟩ := b.tbls c _ e1
    exact ⟨m1 ++ m2, by rw [e2, Array.append_assoc]⟩
theorem Un.kept (k : ∀ b u, h.get? b = some u → h'.get? b = some u) : Un fs ex H H h h' :=
  ⟨fun b ob q _ _ _ => k b ob q, fun b ob q _ _ _ => ⟨ob.slots, k b ob q⟩, fun _ _ _ n _ => n, fun b ob q _ => ⟨ob, k b ob q⟩, fun _ _ q => q, fun _ _ _ q => q, fun _ ps q => ⟨#[], by rw [q]; simp⟩⟩
theorem Un.refl : Un fs ex H H h h := Un.kept fun _ _ q => q
theorem Un.laid (k : ∀ b u, h.get? b = some u → h'.get? b = some u) (hp : h.objs.size ≤ a) (hn : H a = none) : Un fs ex H (upd H a o) h h' where
  keep := fun b u q _ _ _ => k b u q
  slot := fun b u q _ _ _ => ⟨u.slots, k b u q⟩
  free := fun b u q n _ => by rw [upd_ne (Nat.ne_of_lt (Nat.lt_of_lt_of_le (Heap.lt_size q) hp))]; exact n
  there := fun b u q _ => ⟨u, k b u q⟩
  tups := fun b xs q => by rw [upd_ne (ne_of_none q hn)]; exact q
  frzs := fun b u xs q => by rw [upd_ne (ne_of_none q hn)]; exact q
  tbls := fun b ps q => ⟨#[], by rw [upd_ne (ne_of_none q hn), q]; simp⟩
theorem Un.write (mu : Mut (H x)) (he : e = x ∨ H e = some (.own x)) (k : ∀ b u, b ≠ e → h.get? b = some u → h'.get? b = some u) (heo : ∃ u, h'.get? e = some u) : Un fs ex H (upd H x o) h h' := by
  have hx : ∀ b, H b = none → b ≠ x := fun b n z => by subst z; rw [n] at mu; exact mu
  have hb : ∀ b, H b = none → b ≠ e := fun b n z => by
    subst z
    rcases he with r | r
    · exact hx b n r
    · rw [n] at r; cases r
  have hm : ∀ b u, H b = some u → ¬ Mut (some u) → b ≠ x := fun b u q nm z => by subst z; rw [q] at mu; exact nm mu
  refine ⟨fun b u q n _ _ => k b u (hb b n) q, fun b u q n _ _ => ⟨u.slots, k b u (hb b n) q⟩, fun b u q n _ => by rw [upd_ne (hx b n)]; exact n, fun b u q _ => ?_,
    fun b xs q => by rw [upd_ne (hm b _ q fun z => z)]; exact q, fun b u xs q => by rw [upd_ne (hm b _ q fun z => z)]; exact q, fun b ps q => ⟨#[], by rw [upd_ne (hm b _ q fun z => z), q]; simp⟩⟩
  by_cases hbe : b = e
  · subst hbe; exact heo
  · exact ⟨u, k b u hbe q⟩
theorem Un.mono (u : Un fs ex H H1 h h1) (hs : ∀ b ∈ fs, b ∈ fs') (hx : ∀ b ∈ ex, b ∈ ex') : Un fs' ex' H H1 h h1 :=
  ⟨fun b ob q n hb he => u.keep b ob q n (fun z => hb (hs b z)) fun z => he (hx b z), fun _ _ q n _ he => u.any q n fun z => he (hx _ z), fun b ob q n he => u.free b ob q n fun z => he (hx b z), fun b ob q he => u.there b ob q fun z => he (hx b z), u.tups, u.frzs, u.tbls⟩
end
def trk (h : Heap) (H : Hp) : List Addr := (List.range h.objs.size).filter fun a => (H a).isSome
def hidT (h : Heap) (H : Hp) : Heap := PySem.W.hideAll h (trk h H)
theorem hidT_size (h : Heap) (H : Hp) : (hidT h H).objs.size = h.objs.size := PySem.W.hideAll_size _ _
theorem hidT_get {h : Heap} {H : Hp} {b : Addr} {o : Obj} (e : h.get? b = some o) (n : H b = none) : (hidT h H).get? b = some o :=
  PySem.W.hideAll_get _ e fun hm => by
    have q : (H b).isSome = true := (List.mem_filter.mp hm).2
    rw [n] at q; simp at q
theorem of_hidT {h : Heap} {H : Hp} {b : Addr} {o : Obj} (e : (hidT h H).get? b = some o) : h.get? b = some o ∧ H b = none := by
  have e' : h.get? b = some o := PySem.W.of_hideAll (trk h H) e
  refine ⟨e', ?_⟩
  cases q : H b with
  | none => rfl
  | some x =>
    have hm : b ∈ trk h H := List.mem_filter.mpr ⟨List.mem_range.mpr (Heap.lt_size e'), by simp [q]⟩
    have z : (hidT h H).get? b = none := PySem.W.hideAll_none (trk h H) hm
    rw [z] at e; cases e
end L2
namespace L2
open PySem PySem.Spec PyProof.Rows
structure Mod (K : PySem.W.Frag) (mg : Str → Option Value) (base : Heap) : Prop where
  kin : K.In base
  glob : base.Ns mainGlobals mg
  blt : ∃ mb, base.Ns builtinsNs mb ∧ ∀ x : Str, x ≠ "__name__" → mb x = bootBuiltins x
  nolimit : base.NoLimit
structure Cx where
  prog : Program
  w : World
  K : PySem.W.Frag
  mg : Str → Option Value
  base : Heap
  A : Around
  N : List Str
  s₀ : Shared
  H₀ : Hp
  env : Env
  outer : List Env
  stack : List Env
  ex : List Addr
  fn : Str → Bool
  calm : Bool
  pn : List (Addr × Obj)
  xe : Value → Shared → Prop
def frs (l : List Env) : List Addr := l.filterMap (·.frame)
abbrev Cx.fs (X : Cx) : List Addr := frs X.outer
def Vis (sc : Scope) (x : Str) : Prop := sc.names.lookup x = some .local ∨ sc.names.lookup x = some .cell ∨ sc.names.lookup x = some .free
def Loc (sc : Scope) (x : Str) : Prop := sc.names.lookup x = some .local ∨ sc.names.lookup x = some .cell
def Look (env : Env) (h : Heap) (m : Str → Option Value) (x : Str) (u : Value) : Prop :=
  (env.kindOf x = some .local ∧ m x = some u) ∨ ((env.kindOf x = some .cell ∨ env.kindOf x = some .free) ∧ ∃ c, env.cells.lookup x = some c ∧ h.IsCell c (some u))
structure Cx.Ok (X : Cx) : Prop where
  mod : Mod X.K X.mg X.base
  kind : X.env.scope.kind = .function
  glob : X.env.globals = mainGlobals
  blt : X.env.builtins = builtinsNs
  above : X.s₀.heap.objs.size ≤ X.env.locals
  inj : ∀ x y c, X.env.cells.lookup x = some c → X.env.cells.lookup y = some c → x = y
  has : ∀ x, (X.env.kindOf x = some .cell ∨ X.env.kindOf x = some .free) → ∃ c, X.env.cells.lookup x = some c
  cab : ∀ x c, X.fn x = true → X.env.cells.lookup x = some c → X.s₀.heap.objs.size ≤ c
  hd : X.calm = true → X.A.handled = none
  frames : X.A.frames = some X.stack
  stk : X.stack = X.outer ∨ (X.stack = X.env :: X.outer ∧ X.env.frame = some X.env.locals)
  exf : ∀ b ∈ X.ex, b ≠ X.env.locals ∧ ∀ x c, X.env.cells.lookup x = some c → c ≠ b
  bs : ∀ b o, X.base.get? b = some o → X.s₀.heap.get? b = some o ∧ X.H₀ b = none
  bsz : X.base.objs.size ≤ X.s₀.heap.objs.size
  noex : ∀ b o, X.base.get? b = some o → b ∉ X.ex
  exfs : ∀ b ∈ X.ex, b ∉ X.fs
  funs : X.s₀.heap.FunFrames X.base X.outer
  frf : ∀ b ∈ X.fs, X.H₀ b = none
structure Inv (X : Cx) (pins : List (Addr × Obj)) (σ : List (Option V)) (H : Hp) (s : Shared) : Prop where
  ok : X.Ok
  os : s.os = X.s₀.os
  bare : AllBare s.gens
  base : Un X.fs X.ex X.H₀ H X.s₀.heap s.heap
  loc : ∃ m, s.heap.Ns X.env.locals m ∧ ∀ (i : Nat) (x : Str) (v : V), X.N[i]? = some x → σ[i]? = some (some v) → Vis X.env.scope x → ∃ u, RelV v u ∧ Look X.env s.heap m x u
  cell : ∀ x c, X.env.cells.lookup x = some c → ∃ v, s.heap.IsCell c v
  free : H X.env.locals = none
  freeC : ∀ x c, X.env.cells.lookup x = some c → H c = none
  pin : ∀ p ∈ X.pn ++ pins, s.heap.get? p.1 = some p.2 ∧ H p.1 = none ∧ p.1 ≠ X.env.locals ∧ p.1 ∉ X.fs ∧ ∀ v, p.2.data ≠ .cell v
  hok : HOk X.prog X.w H s.heap
  len : σ.length = X.N.length
section
variable {X : Cx} {pins : List (Addr × Obj)} {σ : List (Option V)} {H H' : Hp} {s : Shared} {h' : Heap}
theorem Cx.Ok.nofr (ok : X.Ok) {b : Addr} {o : Obj} (e : X.base.get? b = some o) : b ∉ X.fs := fun hb => by
  have := (ok.funs.mem hb).1
  rw [e] at this; cases this
theorem Inv.bs (I : Inv X pins σ H s) : ∀ b o, X.base.get? b = some o → s.heap.get? b = some o ∧ H b = none := fun b o e =>
  ⟨I.base.keep b o (I.ok.bs b o e).1 (I.ok.bs b o e).2 (I.ok.nofr e) (I.ok.noex b o e), I.base.free b o (I.ok.bs b o e).1 (I.ok.bs b o e).2 (I.ok.noex b o e)⟩
theorem Inv.bk (I : Inv X pins σ H s) : ∀ b o, X.base.get? b = some o → s.heap.get? b = some o := fun b o e => (I.bs b o e).1
theorem Inv.mod (I : Inv X pins σ H s) : Mod X.K X.mg X.base := I.ok.mod
theorem Inv.kIn (I : Inv X pins σ H s) : X.K.In s.heap := I.ok.mod.kin.keeps I.bk
theorem Inv.nolimit (I : Inv X pins σ H s) : s.heap.NoLimit := I.ok.mod.nolimit.keeps I.bk
theorem Inv.lt (I : Inv X pins σ H s) : X.env.locals < s.heap.objs.size := let ⟨_, hn, _⟩ := I.loc; hn.lt
theorem Inv.sz (I : Inv X pins σ H s) : X.s₀.heap.objs.size ≤ s.heap.objs.size := Nat.le_trans I.ok.above (Nat.le_of_lt I.lt)
theorem Inv.nofs (I : Inv X pins σ H s) {a : Addr} (h : s.heap.objs.size ≤ a) : a ∉ X.fs := fun hb => by
  obtain ⟨_, o, ho, _⟩ := I.ok.funs.mem hb
  exact absurd (Nat.lt_of_lt_of_le (Heap.lt_size ho) (Nat.le_trans I.sz h)) (Nat.lt_irrefl _)
theorem Inv.cne (I : Inv X pins σ H s) : ∀ x c, X.env.cells.lookup x = some c → c ≠ X.env.locals := fun x c e z => by
  obtain ⟨v, o, ho, hd⟩ := I.cell x c e
  obtain ⟨m, ⟨o', es, ep, ho', hd', _⟩, _⟩ := I.loc
  rw [z, ho'] at ho; cases ho; rw [hd'] at hd; cases hd
theorem Inv.funs (I : Inv X pins σ H s) : s.heap.FunFrames X.base X.outer := by
  have all : ∀ (l : List Env), (∀ b ∈ frs l, b ∈ X.fs) → X.s₀.heap.FunFrames X.base l → s.heap.FunFrames X.base l := by
    intro l
    induction l with
    | nil => intro _ _; trivial
    | cons env r ih =>
      intro hs hl
      obtain ⟨hk, ⟨L, o, hf, hn, ho, hd⟩, hr⟩ := hl
      have hL : L ∈ X.fs := hs L (by unfold frs; rw [List.filterMap_cons, hf]; exact List.mem_cons_self)
      obtain ⟨sl, e⟩ := I.base.slot L o ho (I.ok.frf L hL) hL fun z => I.ok.exfs L z hL
      exact ⟨hk, ⟨L, _, hf, hn, e, hd⟩, ih (fun b hb => hs b (by unfold frs; rw [List.filterMap_cons, hf]; exact List.mem_cons_of_mem _ hb)) hr⟩
  exact all X.outer (fun _ hb => hb) I.ok.funs
theorem Inv.stack (I : Inv X pins σ H s) : s.heap.FunFrames X.base X.stack := by
  rcases I.ok.stk with e | ⟨e, hf⟩
  · rw [e]; exact I.funs
  · rw [e]
    obtain ⟨m, hn, _⟩ := I.loc
    refine .cons (by rw [I.ok.kind]; decide) hf hn ?_ I.funs
    exact Heap.get?_none_of_le (Nat.le_trans I.ok.bsz I.ok.above)
theorem Inv.stkSub (I : Inv X pins σ H s) : ∀ b ∈ frs X.stack, b ∈ X.env.locals :: X.fs := fun b hb => by
  rcases I.ok.stk with e | ⟨e, hf⟩
  · rw [e] at hb; exact List.mem_cons_of_mem _ hb
  · rw [e] at hb
    unfold frs at hb
    rw [List.filterMap_cons, hf] at hb
    exact hb
theorem Inv.stkFree (I : Inv X pins σ H s) : ∀ b ∈ frs X.stack, H b = none := fun b hb => by
  rcases List.mem_cons.mp (I.stkSub b hb) with e | hb
  · rw [e]; exact I.free
  · obtain ⟨_, o, ho, _⟩ := I.ok.funs.mem hb
    exact I.base.free b o ho (I.ok.frf b hb) fun z => I.ok.exfs b z hb
theorem Inv.step {g' : Array GenState} {t' : Nat} {d' : Drawn} {ch : List Addr} (I : Inv X pins σ H s)
    (hch : ∀ b ∈ ch, (b ∈ X.ex ∨ X.s₀.heap.objs.size ≤ b) ∧ b ≠ X.env.locals ∧ (∀ x c, X.env.cells.lookup x = some c → c ≠ b) ∧ ∀ p ∈ X.pn ++ pins, p.1 ≠ b)
    (keep : ∀ b o, b ≠ X.env.locals → b ∉ X.fs → b ∉ ch → s.heap.get? b = some o → H b = none → h'.get? b = some o)
    (slot : ∀ b o, b ≠ X.env.locals → b ∈ X.fs → b ∉ ch → s.heap.get? b = some o → H b = none → ∃ sl, h'.get? b = some { o with slots := sl }) (free : ∀ b o, b ∉ ch → s.heap.get? b = some o → H b = none → H' b = none)
    (there : ∀ b o, b ∉ ch → s.heap.get? b = some o → ∃ o', h'.get? b = some o')
    (tups : ∀ b xs, H b = some (.tup xs) → H' b = some (.tup xs)) (frzs : ∀ b o u, H b = some (.frz o u) → H' b = some (.frz o u)) (tbls : ∀ b ps, H b = some (.tbl ps) → ∃ more, H' b = some (.tbl (ps ++ more)))
    (ns : ∀ m, s.heap.Ns X.env.locals m → h'.Ns X.env.locals m) (hok : HOk X.prog X.w H' h') (hg : AllBare g') :
    Inv X pins σ H' { s with heap := h', gens := g', drawn := d', toks := t' } := by
  have neL : ∀ b o, X.s₀.heap.get? b = some o → b ≠ X.env.locals := fun b o e => Nat.ne_of_lt (Nat.lt_of_lt_of_le (Heap.lt_size e) I.ok.above)
  have neC : ∀ b o, X.s₀.heap.get? b = some o → b ∉ X.ex → b ∉ ch := fun b o e hx hb => by
    rcases (hch b hb).1 with z | z
    · exact hx z
    · exact absurd (Nat.lt_of_lt_of_le (Heap.lt_size e) z) (Nat.lt_irrefl _)
  have cellK : ∀ x c, X.env.cells.lookup x = some c → ∀ v, s.heap.IsCell c v → h'.IsCell c v := fun x c e v ⟨o, ho, hd⟩ => by
    have nch : c ∉ ch := fun z => (hch c z).2.2.1 x c e rfl
    by_cases hc : c ∈ X.fs
    · obtain ⟨sl, q⟩ := slot c o (I.cne x c e) hc nch ho (I.freeC x c e)
      exact ⟨_, q, hd⟩
    · exact ⟨o, keep c o (I.cne x c e) hc nch ho (I.freeC x c e), hd⟩
  refine ⟨I.ok, I.os, hg, ⟨fun b o e n hb hx => ?_, fun b o e n hb hx => ?_, fun b o e n hx => ?_, fun b o e hx => ?_, fun b xs e => tups b xs (I.base.tups b xs e), fun b o xs e => frzs b o xs (I.base.frzs b o xs e), fun b ps e => ?_⟩, ?_, fun x c e => ?_, ?_, fun x c e => ?_, fun p hp => ?_, hok, I.len⟩
  · exact keep b o (neL b o e) hb (neC b o e hx) (I.base.keep b o e n hb hx) (I.base.free b o e n hx)
  · obtain ⟨sl, e1⟩ := I.base.slot b o e n hb hx
    obtain ⟨sl', e2⟩ := slot b _ (neL b o e) hb (neC b o e hx) e1 (I.base.free b o e n hx)
    exact ⟨sl', e2⟩
  · obtain ⟨o', e1⟩ := I.base.there b o e hx
    exact free b o' (neC b o e hx) e1 (I.base.free b o e n hx)
  · obtain ⟨o', e1⟩ := I.base.there b o e hx
    exact there b o' (neC b o e hx) e1
  · obtain ⟨m1, e1⟩ := I.base.tbls b ps e
    obtain ⟨m2, e2⟩ := tbls b _ e1
    exact ⟨m1 ++ m2, by rw [e2, Array.append_assoc]⟩
  · obtain ⟨m, hn, hl⟩ := I.loc
    refine ⟨m, ns m hn, fun i x v e1 e2 e3 => ?_⟩
    obtain ⟨u, r, l⟩ := hl i x v e1 e2 e3
    refine ⟨u, r, ?_⟩
    rcases l with l | ⟨k, c, e, z⟩
    · exact .inl l
    · exact .inr ⟨k, c, e, cellK x c e _ z⟩
  · obtain ⟨v, z⟩ := I.cell x c e
    exact ⟨v, cellK x c e v z⟩
  · obtain ⟨m, ⟨o, _, _, ho, _⟩, _⟩ := I.loc
    exact free _ o (fun z => (hch _ z).2.1 rfl) ho I.free
  · obtain ⟨v, o, ho, hd⟩ := I.cell x c e
    exact free c o (fun z => (hch c z).2.2.1 x c e rfl) ho (I.freeC x c e)
  · obtain ⟨e, n, ne, nf, d⟩ := I.pin p hp
    have nch : p.1 ∉ ch := fun z => (hch p.1 z).2.2.2 p hp rfl
    exact ⟨keep p.1 p.2 ne nf nch e n, free p.1 p.2 nch e n, ne, nf, d⟩
theorem Inv.un {t' : Nat} (I : Inv X pins σ H s) (u : Un X.fs [] H H' s.heap h') (hok : HOk X.prog X.w H' h') : Inv X pins σ H' { s with heap := h', toks := t' } := by
  obtain ⟨m, ⟨o, es, ep, ho, r⟩, _⟩ := id I.loc
  obtain ⟨sl, hL⟩ := u.any ho I.free (by simp)
  exact I.step (g' := s.gens) (d' := s.drawn) (ch := []) (fun _ z => nomatch z) (fun b o _ hb _ e n => u.keep b o e n hb (by simp)) (fun b o _ hb _ e n => u.slot b o e n hb (by simp)) (fun b o _ e n => u.free b o e n (by simp)) (fun b o _ e => u.there b o e (by simp)) u.tups u.frzs u.tbls (fun m' hm => by
    obtain ⟨o', es', ep', ho', r'⟩ := hm
    rw [ho] at ho'; cases ho'
    exact ⟨_, es', ep', hL, r'⟩) hok I.bare
theorem Inv.call {g' : Array GenState} {t' : Nat} {d' : Drawn} {ch : List Addr} (I : Inv X pins σ H s) (u : Un (frs X.stack) ch H H' s.heap h') (hok : HOk X.prog X.w H' h') (hg : AllBare g')
    (hch : ∀ b ∈ ch, (b ∈ X.ex ∨ X.s₀.heap.objs.size ≤ b) ∧ b ≠ X.env.locals ∧ (∀ x c, X.env.cells.lookup x = some c → c ≠ b) ∧ ∀ p ∈ X.pn ++ pins, p.1 ≠ b) :
    Inv X pins σ H' { s with heap := h', gens := g', drawn := d', toks := t' } := by
  obtain ⟨m, ⟨o, es, ep, ho, r⟩, _⟩ := id I.loc
  obtain ⟨sl, hL⟩ := u.any ho I.free fun z => (hch _ z).2.1 rfl
  exact I.step (ch := ch) hch (fun b o hL hb hc e n => u.keep b o e n (fun z => (List.mem_cons.mp (I.stkSub b z)).elim hL hb) hc) (fun b o _ _ hc e n => u.any e n hc) (fun b o hc e n => u.free b o e n hc) (fun b o hc e => u.there b o e hc) u.tups u.frzs u.tbls (fun m' hm => by
    obtain ⟨o', es', ep', ho', r'⟩ := hm
    rw [ho] at ho'; cases ho'
    exact ⟨_, es', ep', hL, r'⟩) hok hg
theorem Inv.turned {t' : Nat} {it : Addr} (I : Inv X pins σ H s) (k : ∀ b o, b ≠ it → s.heap.get? b = some o → h'.get? b = some o) (hn : H it = none) (hL : it ≠ X.env.locals)
    (h1 : it ∈ X.ex ∨ X.s₀.heap.objs.size ≤ it) (h2 : ∀ x c, X.env.cells.lookup x = some c → c ≠ it) (h3 : ∀ p ∈ X.pn ++ pins, p.1 ≠ it) : Inv X pins σ H { s with heap := h', toks := t' } := by
  have nit : ∀ b u, H b = some u → b ≠ it := fun b u e z => by rw [z, hn] at e; cases e
  refine I.step (g' := s.gens) (d' := s.drawn) (ch := [it]) (fun b hb => ?_) (fun b o _ _ hc e _ => k b o (fun z => hc (by simp [z])) e) (fun b o _ _ hc e _ => ⟨o.slots, k b o (fun z => hc (by simp [z])) e⟩) (fun _ _ _ _ n => n)
    (fun b o hc e => ⟨o, k b o (fun z => hc (by simp [z])) e⟩) (fun _ _ e => e) (fun _ _ _ e => e) (fun b ps e => ⟨#[], by rw [e]; simp⟩) (fun m hm => ?_) (fun b u e => ?_) I.bare
  · have e : b = it := by simpa using hb
    subst e
    exact ⟨h1, hL, h2, h3⟩
  · obtain ⟨o, es, ep, ho, r⟩ := hm
    exact ⟨o, es, ep, k _ o (Ne.symm hL) ho, r⟩
  · refine (I.hok b u e).stay (fun c v hc q => k c v ?_ q) (fun _ q => q) fun _ _ q => q
    rcases hc with z | z
    · rw [z]; exact nit b u e
    · exact nit c _ z
theorem Inv.tok (I : Inv X pins σ H s) (t : Nat) : Inv X pins σ H { s with toks := t } := I.un (h' := s.heap) (t' := t) Un.refl I.hok
theorem Inv.kept {t' : Nat} (I : Inv X pins σ H s) (k : ∀ b u, s.heap.get? b = some u → h'.get? b = some u) : Inv X pins σ H { s with heap := h', toks := t' } := I.un (Un.kept k) (I.hok.kept k)
theorem Inv.laid {a : Addr} {o : HO} {t' : Nat} (I : Inv X pins σ H s) (k : ∀ b u, s.heap.get? b = some u → h'.get? b = some u) (hp : s.heap.objs.size ≤ a) (new : ObjOk X.prog X.w (upd H a o) h' a o) :
    Inv X pins σ (upd H a o) { s with heap := h', toks := t' } := I.un (Un.laid k hp (I.hok.fresh hp)) (I.hok.laid k hp new)
theorem Inv.write {x e : Addr} {o : HO} {t' : Nat} (I : Inv X pins σ H s) (mu : Mut (H x)) (he : e = x ∨ H e = some (.own x)) (k : ∀ b u, b ≠ e → s.heap.get? b = some u → h'.get? b = some u) (heo : ∃ u, h'.get? e = some u)
    (new : ObjOk X.prog X.w (upd H x o) h' x o) : Inv X pins σ (upd H x o) { s with heap := h', toks := t' } := I.un (Un.write mu he k heo) (I.hok.write mu he k heo new)
theorem Inv.pins_of {pins' : List (Addr × Obj)} (I : Inv X pins σ H s) (h : ∀ p ∈ pins', s.heap.get? p.1 = some p.2 ∧ H p.1 = none ∧ p.1 ≠ X.env.locals ∧ p.1 ∉ X.fs ∧ ∀ v, p.2.data ≠ .cell v) : Inv X pins' σ H s :=
  ⟨I.ok, I.os, I.bare, I.base, I.loc, I.cell, I.free, I.freeC, fun p hp => (List.mem_append.mp hp).elim (fun z => I.pin p (List.mem_append_left _ z)) (h p), I.hok, I.len⟩
theorem nodup_ix {N : List Str} (hN : N.Nodup) {i j : Nat} {x : Str} (a : N[i]? = some x) (b : N[j]? = some x) : i = j := by
  obtain ⟨h1, e1⟩ := List.getElem?_eq_some_iff.mp a
  obtain ⟨h2, e2⟩ := List.getElem?_eq_some_iff.mp b
  exact (List.getElem_inj hN).mp (e1.trans e2.symm)
theorem store_ok2 {M : Model} {A : Around} {E : Value → Shared → Prop} {i : Nat} {x : Str} {v : V} {u : Value} {Q : Unit → Shared → Prop} (I : Inv X pins σ H s) (hN : X.N.Nodup) (hi : X.N[i]? = some x) (hx : Loc X.env.scope x) (r : RelV v u)
    (h : ∀ s', Inv X pins (σ.set i (some v)) H s' → (∃ a, Heap.SameBut a s.heap s'.heap ∧ (a = X.env.locals ∨ X.env.cells.lookup x = some a)) → Q () s') (hf : X.fn x = true ∨ X.env.scope.names.lookup x = some .local := by first | exact .inl rfl | exact .inr rfl | assumption) : wpAny M A (storeName X.env x u) Q E s := by
  obtain ⟨m, hn, hl⟩ := id I.loc
  have hcls : (X.env.scope.kind == .class || (X.env.scope.kind == .module && X.env.locals != X.env.globals)) = false := by rw [I.ok.kind]; rfl
  have hiσ : i < σ.length := by rw [I.len]; exact (List.getElem?_eq_some_iff.mp hi).1
  have cne := I.cne
  have tracked : ∀ {a : Addr} {h' : Heap}, (∃ o, s.heap.get? a = some o ∧ H a = none) → Heap.SameBut a s.heap h' → HOk X.prog X.w H h' := fun {a h'} ha hs b ob e => by
    obtain ⟨_, _, hfree⟩ := ha
    refine (I.hok b ob e).stay (fun c w' hc q => (hs.2 c ?_).trans q) (fun _ q => q) fun _ _ q => q
    rintro rfl
    rcases hc with rfl | hc
    · rw [hfree] at e; cases e
    · rw [hfree] at hc; cases hc
  rcases hx with hk | hk
  · refine wpAny_storeName_local hk hn (fun h' hn' hs => ?_) hcls
    obtain ⟨oL, _, _, hoL, _⟩ := id hn
    refine h _ ⟨I.ok, I.os, I.bare, ⟨fun b o e n hb hx => ?_, fun b o e n hb hx => ?_, I.base.free, fun b o e hx => ?_, I.base.tups, I.base.frzs, I.base.tbls⟩, ⟨_, hn', fun j y v' e1 e2 e3 => ?_⟩, fun y c e => ?_, I.free, I.freeC, fun p hp => ?_, tracked ⟨oL, hoL, I.free⟩ hs, by simpa using I.len⟩ ⟨_, hs, .inl rfl⟩
    · exact (hs.2 b (Nat.ne_of_lt (Nat.lt_of_lt_of_le (Heap.lt_size e) I.ok.above))).trans (I.base.keep b o e n hb hx)
    · obtain ⟨sl, e1⟩ := I.base.slot b o e n hb hx
      exact ⟨sl, (hs.2 b (Nat.ne_of_lt (Nat.lt_of_lt_of_le (Heap.lt_size e) I.ok.above))).trans e1⟩
    · obtain ⟨o', e1⟩ := I.base.there b o e hx
      exact ⟨o', (hs.2 b (Nat.ne_of_lt (Nat.lt_of_lt_of_le (Heap.lt_size e) I.ok.above))).trans e1⟩
    · by_cases hj : j = i
      · subst hj
        rw [hi] at e1; cases e1
        rw [List.getElem?_set_self hiσ] at e2
        cases e2
        exact ⟨u, r, .inl ⟨hk, by simp⟩⟩
      · rw [List.getElem?_set_ne (Ne.symm hj)] at e2
        obtain ⟨u', r', q⟩ := hl j y v' e1 e2 e3
        refine ⟨u', r', ?_⟩
        rcases q with ⟨k, e⟩ | ⟨k, c, e, z⟩
        · refine .inl ⟨k, ?_⟩
          have : y ≠ x := fun e => hj (nodup_ix hN e1 (e ▸ hi))
          simp [this, e]
        · exact .inr ⟨k, c, e, z.sameBut hs (cne y c e)⟩
    · obtain ⟨w', z⟩ := I.cell y c e
      exact ⟨w', z.sameBut hs (cne y c e)⟩
    · obtain ⟨e, n, ne, nf, d⟩ := I.pin p hp
      exact ⟨(hs.2 p.1 ne).trans e, n, ne, nf, d⟩
  · have hfn : X.fn x = true := by
      rcases hf with z | z
      · exact z
      · rw [z] at hk; cases hk
    obtain ⟨c, hc⟩ := I.ok.has x (.inl hk)
    obtain ⟨w', z⟩ := I.cell x c hc
    refine wpAny_storeName_cell I.ok.kind hk hc z (fun h' hc' hs => ?_)
    obtain ⟨oc, hoc, hocd⟩ := id z
    refine h { s with heap := h' } ⟨I.ok, I.os, I.bare, ⟨fun b o e n hb hx => ?_, fun b o e n hb hx => ?_, I.base.free, fun b o e hx => ?_, I.base.tups, I.base.frzs, I.base.tbls⟩, ⟨m, hn.sameBut hs (Ne.symm (cne x c hc)), fun j y v' e1 e2 e3 => ?_⟩, fun y c' e => ?_, I.free, I.freeC, fun p hp => ?_, tracked ⟨oc, hoc, I.freeC x c hc⟩ hs, by simpa using I.len⟩ ⟨c, hs, .inr hc⟩
    · exact (hs.2 b (Nat.ne_of_lt (Nat.lt_of_lt_of_le (Heap.lt_size e) (I.ok.cab x c hfn hc)))).trans (I.base.keep b o e n hb hx)
    · obtain ⟨sl, e1⟩ := I.base.slot b o e n hb hx
      exact ⟨sl, (hs.2 b (Nat.ne_of_lt (Nat.lt_of_lt_of_le (Heap.lt_size e) (I.ok.cab x c hfn hc)))).trans e1⟩
    · obtain ⟨o', e1⟩ := I.base.there b o e hx
      exact ⟨o', (hs.2 b (Nat.ne_of_lt (Nat.lt_of_lt_of_le (Heap.lt_size e) (I.ok.cab x c hfn hc)))).trans e1⟩
    · by_cases hj : j = i
      · subst hj
        rw [hi] at e1; cases e1
        rw [List.getElem?_set_self hiσ] at e2
        cases e2
        exact ⟨u, r, .inr ⟨.inl hk, c, hc, hc'⟩⟩
      · rw [List.getElem?_set_ne (Ne.symm hj)] at e2
        obtain ⟨u', r', q⟩ := hl j y v' e1 e2 e3
        refine ⟨u', r', ?_⟩
        rcases q with q | ⟨k, c', e, z'⟩
        · exact .inl q
        · refine .inr ⟨k, c', e, z'.sameBut hs ?_⟩
          rintro rfl
          exact hj (nodup_ix hN e1 (I.ok.inj _ _ _ e hc ▸ hi))
    · by_cases hcc : c' = c
      · subst hcc; exact ⟨_, hc'⟩
      · obtain ⟨w2, z2⟩ := I.cell y c' e
        exact ⟨w2, z2.sameBut hs hcc⟩
    · obtain ⟨e, n, ne, nf, d⟩ := I.pin p hp
      refine ⟨(hs.2 p.1 ?_).trans e, n, ne, nf, d⟩
      intro q
      rw [q, hoc] at e
      have q' : oc = p.2 := Option.some.inj e
      exact d w' (by rw [← q']; exact hocd)
theorem store_ok {M : Model} {A : Around} {E : Value → Shared → Prop} {i : Nat} {x : Str} {v : V} {u : Value} {Q : Unit → Shared → Prop} (I : Inv X pins σ H s) (hN : X.N.Nodup) (hi : X.N[i]? = some x) (hx : Loc X.env.scope x) (r : RelV v u)
    (h : ∀ s', Inv X pins (σ.set i (some v)) H s' → Q () s') (hf : X.fn x = true ∨ X.env.scope.names.lookup x = some .local := by first | exact .inl rfl | exact .inr rfl | assumption) : wpAny M A (storeName X.env x u) Q E s :=
  store_ok2 I hN hi hx r (fun s' I' _ => h s' I') hf
theorem Inv.call' {s' : Shared} {ch : List Addr} (I : Inv X pins σ H s) (ho : s'.os = s.os) (u : Un (frs X.stack) ch H H' s.heap s'.heap) (hok : HOk X.prog X.w H' s'.heap) (hg : AllBare s'.gens)
    (hch : ∀ b ∈ ch, (b ∈ X.ex ∨ X.s₀.heap.objs.size ≤ b) ∧ b ≠ X.env.locals ∧ (∀ x c, X.env.cells.lookup x = some c → c ≠ b) ∧ ∀ p ∈ X.pn ++ pins, p.1 ≠ b) : Inv X pins σ H' s' := by
  obtain ⟨h', g', d', t', o'⟩ := s'
  have e : o' = s.os := ho
  subst e
  exact I.call (g' := g') (t' := t') (d' := d') u hok hg hch
end
abbrev XK := Value → Option Addr → Hp → Prop
abbrev St := List (Option V)
abbrev VK := V → Hp → Prop
abbrev TE := St → Hp → VK → Prop
abbrev TT := St → Hp → (Bool → Hp → Prop) → Prop
abbrev TA := St → Hp → (List V → Hp → Prop) → Prop
structure Ends where
  nx : St → Hp → Prop
  rt : VK
  bk : St → Hp → Prop := fun _ _ => False
  ct : St → Hp → Prop := fun _ _ => False
abbrev TS := Ends → St → Hp → Prop
def EP (X : Cx) (pins : List (Addr × Obj)) (σ : St) (Q : VK) (u : Value) (s' : Shared) : Prop := ∃ v H', Inv X pins σ H' s' ∧ RelV v u ∧ Q v H'
def TP (X : Cx) (pins : List (Addr × Obj)) (σ : St) (Q : Bool → Hp → Prop) (b : Bool) (s' : Shared) : Prop := ∃ H', Inv X pins σ H' s' ∧ Q b H'
def AP (X : Cx) (pins : List (Addr × Obj)) (σ : St) (Q : List V → Hp → Prop) (us : List Value) (s' : Shared) : Prop := ∃ vs H', Inv X pins σ H' s' ∧ Vals vs us ∧ Q vs H'
def SP (X : Cx) (pins : List (Addr × Obj)) (D : Ends) (f : Flow) (s' : Shared) : Prop :=
  match f with
  | .next => ∃ σ' H', Inv X pins σ' H' s' ∧ D.nx σ' H'
  | .brk => ∃ σ' H', Inv X pins σ' H' s' ∧ D.bk σ' H'
  | .cont => ∃ σ' H', Inv X pins σ' H' s' ∧ D.ct σ' H'
  | .ret u => ∃ v σ' H', Inv X pins σ' H' s' ∧ RelV v u ∧ D.rt v H'
def PE (X : Cx) (e : Expr) (t : TE) : Prop :=
  ∀ (pins : List (Addr × Obj)) (s : Shared) (σ : St) (H : Hp) (Q : VK), Inv X pins σ H s → t σ H Q → wpAny (model X.prog X.w) X.A (eval e X.env) (EP X pins σ Q) X.xe s
def PT (X : Cx) (e : Expr) (t : TT) : Prop :=
  ∀ (pins : List (Addr × Obj)) (s : Shared) (σ : St) (H : Hp) (Q : Bool → Hp → Prop), Inv X pins σ H s → t σ H Q → wpAny (model X.prog X.w) X.A (isTrue e X.env (eval e X.env)) (TP X pins σ Q) X.xe s
def PW (X : Cx) (e : Expr) (t : TT) : Prop :=
  ∀ (whole : Sem Value) (pins : List (Addr × Obj)) (s : Shared) (σ : St) (H : Hp) (Q : Bool → Hp → Prop), Inv X pins σ H s → t σ H Q → wpAny (model X.prog X.w) X.A (isTrue e X.env whole) (TP X pins σ Q) X.xe s
theorem PW.pt {X : Cx} {e : Expr} {t : TT} (h : PW X e t) : PT X e t := h _
def PA (X : Cx) (es : List Expr) (t : TA) : Prop :=
  ∀ (pos : Pos) (pins : List (Addr × Obj)) (s : Shared) (σ : St) (H : Hp) (Q : List V → Hp → Prop), Inv X pins σ H s → t σ H Q → wpAny (model X.prog X.w) X.A (spliced (backTo pos (starEach es X.env))) (AP X pins σ Q) X.xe s
def PS (X : Cx) (st : Stmt) (t : TS) : Prop :=
  ∀ (pins : List (Addr × Obj)) (s : Shared) (σ : St) (H : Hp) (D : Ends), Inv X pins σ H s → t D σ H → wpAny (model X.prog X.w) X.A (exec st X.env) (SP X pins D) X.xe s
def PSs (X : Cx) (st : List Stmt) (t : TS) : Prop :=
  ∀ (pins : List (Addr × Obj)) (s : Shared) (σ : St) (H : Hp) (D : Ends), Inv X pins σ H s → t D σ H → wpAny (model X.prog X.w) X.A (execs st X.env) (SP X pins D) X.xe s
theorem thn {α : Type} {t : Sem α} {Q Q' : α → Shared → Prop} {M : Model} {A : Around} {E : Value → Shared → Prop} {s : Shared} (h : wpAny M A t Q E s) (hQ : ∀ a s, Q a s → Q' a s) : wpAny M A t Q' E s := wpAny_mono h hQ fun _ _ x => x
end L2
namespace L2
open PySem PySem.Spec PyProof.Rows
section
variable {X : Cx}
theorem bin {a b : Expr} {ta tb : TE} (ha : PE X a ta) (hb : PE X b tb) {pins : List (Addr × Obj)} {s : Shared} {σ : St} {H : Hp} {R : V → V → Hp → Prop} (I : Inv X pins σ H s) (h : ta σ H fun x H1 => tb σ H1 fun y H2 => R x y H2)
    {α : Type} {Q : α → Shared → Prop} {f : Value → Value → Sem α}
    (hf : ∀ v u s2 x y H2, Inv X pins σ H2 s2 → RelV x v → RelV y u → R x y H2 → wpAny (model X.prog X.w) X.A (f v u) Q X.xe s2) :
    wpAny (model X.prog X.w) X.A (eval a X.env) (fun v s₁ => wpAny (model X.prog X.w) X.A (eval b X.env) (fun u s₂ => wpAny (model X.prog X.w) X.A (f v u) Q X.xe s₂) X.xe s₁) X.xe s := by
  refine thn (ha pins s σ H _ I h) fun v s1 ⟨x, H1, I1, r1, q1⟩ => ?_
  refine thn (hb pins s1 σ H1 _ I1 q1) fun u s2 ⟨y, H2, I2, r2, q2⟩ => ?_
  exact hf v u s2 x y H2 I2 r1 r2 q2
def tVar (i : Nat) : TE := fun σ H Q => ∃ v, σ[i]? = some (some v) ∧ Q v H
def tC (v : V) : TE := fun _ H Q => Q v H
theorem pe_var {i : Nat} {x : Str} {pos : Pos} (hN : X.N[i]? = some x) (hv : Vis X.env.scope x) (hd : (x == ("__debug__" : Str)) = false := by decide) (hcd : (x == ("__classdict__" : Str)) = false := by decide) : PE X (.Name x pos) (tVar i) := by
  intro pins s σ H Q I h
  obtain ⟨v, e, h⟩ := h
  obtain ⟨m, hn, hl⟩ := I.loc
  obtain ⟨u, r, l⟩ := hl i x v hN e hv
  have fin : EP X pins σ Q u s := ⟨v, H, I, r, h⟩
  rcases l with ⟨hk, hm⟩ | ⟨hk, c, hc, hcell⟩
  · exact wpAny_Name (wpAny_loadName_local I.ok.kind hk hn hm fin) hd
  · rcases hk with hk | hk
    · exact wpAny_Name (wpAny_loadName_cell I.ok.kind hk hc hcell fin) hd
    · exact wpAny_Name (wpAny_loadName_free I.ok.kind hk hc hcell fin hcd) hd
theorem pe_int {i j pos} : PE X (.Constant (.int i) j pos) (tC (.int i)) := fun _ _ _ H _ I h => wpAny_Constant_int ⟨.int i, H, I.tok _, ⟨_, rfl⟩, h⟩
theorem pe_bl {b j pos} : PE X (.Constant (.bool b) j pos) (tC (.bl b)) := fun _ _ _ H _ I h => Constant_bool ⟨.bl b, H, I, rfl, h⟩
theorem pe_non {j pos} : PE X (.Constant .none j pos) (tC .non) := fun _ _ _ H _ I h => Constant_none ⟨.non, H, I, rfl, h⟩
theorem pe_str {x j pos} : PE X (.Constant (.str x) j pos) (tC (.str x)) := fun _ _ _ H _ I h => Calls.Constant_str ⟨.str x, H, I.tok _, ⟨_, rfl⟩, h⟩
def Gl (X : Cx) (x : Str) : Prop := X.env.kindOf x = some .globalImplicit
theorem ld_glob {E : Value → Shared → Prop} {pins : List (Addr × Obj)} {s : Shared} {σ : St} {H : Hp} {x : Str} {u : Value} {pos : Pos} {Q : Value → Shared → Prop} (I : Inv X pins σ H s) (hg : Gl X x) (hm : X.mg x = some u) (h : Q u s)
    (hd : (x == ("__debug__" : Str)) = false := by decide) : wpAny (model X.prog X.w) X.A (eval (.Name x pos) X.env) Q E s :=
  Calls.Name_function_global I.ok.kind hg (Calls.loadGlobal_global (by rw [I.ok.glob]; exact I.mod.glob.keeps I.bk) hm h) hd
theorem ld_blt {E : Value → Shared → Prop} {pins : List (Addr × Obj)} {s : Shared} {σ : St} {H : Hp} {x : Str} {u : Value} {pos : Pos} {Q : Value → Shared → Prop} (I : Inv X pins σ H s) (hg : Gl X x) (hm : X.mg x = none) (hv : bootBuiltins x = some u) (h : Q u s)
    (hn : x ≠ "__name__" := by decide) (hd : (x == ("__debug__" : Str)) = false := by decide) : wpAny (model X.prog X.w) X.A (eval (.Name x pos) X.env) Q E s := by
  obtain ⟨mb, h1, h2⟩ := I.mod.blt
  exact Calls.Name_function_global I.ok.kind hg (Calls.loadGlobal_builtin (by rw [I.ok.glob]; exact I.mod.glob.keeps I.bk) hm (by rw [I.ok.blt]; exact h1.keeps I.bk) ((h2 x hn).trans hv) h) hd
theorem pe_bltn {x : Str} {v : V} {u : Value} {pos : Pos} (hg : Gl X x) (hm : X.mg x = none) (hv : bootBuiltins x = some u) (r : RelV v u) (hn : x ≠ "__name__" := by decide) (hd : (x == ("__debug__" : Str)) = false := by decide) : PE X (.Name x pos) (tC v) :=
  fun _ _ _ H _ I h => ld_blt I hg hm hv ⟨v, H, I, r, h⟩ hn hd
variable {a b : Expr} {ta tb : TE} {pos : Pos}
variable {tA tB' : TT} {rest : List Expr}
def tAnd (t u : TT) : TT := fun σ H Q => t σ H fun c H1 => if c = true then u σ H1 Q else Q false H1
def tOr (t u : TT) : TT := fun σ H Q => t σ H fun c H1 => if c = true then Q true H1 else u σ H1 Q
def tNot (t : TT) : TT := fun σ H Q => t σ H fun c H1 => Q (!c) H1
theorem pw_and1 (ha : PT X a tA) : PW X (.BoolOp .And [a] pos) tA := by
  intro wh pins s σ H Q I h
  refine isTrue_and (thn (ha pins s σ H Q I h) fun c s1 e => ?_)
  cases c with
  | true => exact isTrue_and_nil e
  | false => exact e
theorem pw_or1 (ha : PT X a tA) : PW X (.BoolOp .Or [a] pos) tA := by
  intro wh pins s σ H Q I h
  refine isTrue_or (thn (ha pins s σ H Q I h) fun c s1 e => ?_)
  cases c with
  | false => exact isTrue_or_nil e
  | true => exact e
theorem pw_and (ha : PT X a tA) (hb : PW X (.BoolOp .And (b :: rest) pos) tB') : PW X (.BoolOp .And (a :: b :: rest) pos) (tAnd tA tB') := by
  intro wh pins s σ H Q I h
  refine isTrue_and (thn (ha pins s σ H _ I h) fun c s1 ⟨H1, I1, q1⟩ => ?_)
  cases c with
  | true => exact hb wh pins s1 σ H1 Q I1 q1
  | false => exact ⟨H1, I1, q1⟩
theorem pw_or (ha : PT X a tA) (hb : PW X (.BoolOp .Or (b :: rest) pos) tB') : PW X (.BoolOp .Or (a :: b :: rest) pos) (tOr tA tB') := by
  intro wh pins s σ H Q I h
  refine isTrue_or (thn (ha pins s σ H _ I h) fun c s1 ⟨H1, I1, q1⟩ => ?_)
  cases c with
  | true => exact ⟨H1, I1, q1⟩
  | false => exact hb wh pins s1 σ H1 Q I1 q1
theorem pt_not (ha : PT X a tA) : PT X (.UnaryOp .Not a pos) (tNot tA) := by
  intro pins s σ H Q I h
  exact isTrue_not (ha pins s σ H (fun c H1 => Q (!c) H1) I h)
end
end L2
namespace L2
open PySem PySem.Spec PyProof.Rows
def SqL (K : PySem.W.Frag) (H : Hp) (a : Addr) (xs : List V) : Prop :=
  Rd H a (.lst xs) ∨
    ∃ (o : Obj) (its : Array Value) (n : Nat), K.lookup a = some o ∧ o.cls = .type "list" ∧ o.dict = none ∧ o.data = .seq its n ∧ its.size ≤ sizeLine ∧ Vals xs its.toList
def SqT (K : PySem.W.Frag) (H : Hp) (a : Addr) (xs : List V) : Prop :=
  Rd H a (.tup xs) ∨
    ∃ (o : Obj) (its : Array Value) (n : Nat), K.lookup a = some o ∧ o.cls = .type "tuple" ∧ o.data = .seq its n ∧ its.size ≤ sizeLine ∧ Vals xs its.toList
def absV : Value → Option V
  | .none => some .non
  | .bool b => some (.bl b)
  | .int i _ => some (.int i)
  | .str x _ => some (.str x)
  | .bytes b _ => some (.byt b)
  | .float b _ => some (.flt b)
  | .ref a => some (.ref a)
  | .type n => some (.ty n)
  | _ => none
theorem RelV.abs {x : V} {u : Value} (r : RelV x u) : absV u = some x := by
  cases x with
  | non => cases r; rfl
  | bl _ => cases r; rfl
  | int _ => obtain ⟨t, rfl⟩ := r; rfl
  | str _ => obtain ⟨t, rfl⟩ := r; rfl
  | byt _ => obtain ⟨t, rfl⟩ := r; rfl
  | flt _ => obtain ⟨t, rfl⟩ := r; rfl
  | ref _ => cases r; rfl
  | ty _ => cases r; rfl
theorem RelV.inj {x y : V} {u : Value} (r : RelV x u) (q : RelV y u) : x = y := Option.some.inj (r.abs.symm.trans q.abs)
theorem Vals.inj : ∀ {xs ys : List V} {us : List Value}, Vals xs us → Vals ys us → xs = ys
  | _, _, _, .nil, .nil => rfl
  | _, _, _, .cons r t, .cons r' t' => by rw [r.inj r', Vals.inj t t']
section
variable {X : Cx} {pins : List (Addr × Obj)} {σ : St} {H : Hp} {s : Shared} {a : Addr} {xs ys : List V}
theorem SqL.of {K : PySem.W.Frag} (h : H a = some (.lst xs)) : SqL K H a xs := .inl (.inl h)
theorem SqT.of {K : PySem.W.Frag} (h : H a = some (.tup xs)) : SqT K H a xs := .inl (.inl h)
theorem Inv.list (I : Inv X pins σ H s) (h : SqL X.K H a xs) : ∃ its : List Value, Vals xs its ∧ PlainL s.heap a its.toArray ∧ xs.length ≤ sizeLine := by
  rcases h with h | ⟨o, its, n, hk, hc, hd, hs, hz, r⟩
  · obtain ⟨z, its, n, r, e⟩ := h.ok I.hok
    exact ⟨its, r, ⟨_, n, e, rfl, rfl, rfl⟩, z⟩
  · refine ⟨its.toList, r, ⟨o, n, I.kIn a o hk, hc, hd, by simpa using hs⟩, ?_⟩
    have e := r.length
    simp only [Array.length_toList] at e
    omega
theorem Inv.tuple (I : Inv X pins σ H s) (h : SqT X.K H a xs) : ∃ its : List Value, Vals xs its ∧ IsTup s.heap a its.toArray ∧ xs.length ≤ sizeLine := by
  rcases h with h | ⟨o, its, n, hk, hc, hs, hz, r⟩
  · obtain ⟨z, its, r, p⟩ := h.ok I.hok
    exact ⟨its, r, p, z⟩
  · refine ⟨its.toList, r, ⟨o, I.kIn a o hk, hc, n, by simpa using hs⟩, ?_⟩
    have e := r.length
    simp only [Array.length_toList] at e
    omega
theorem Inv.list_inj (I : Inv X pins σ H s) (h : SqL X.K H a xs) (h' : SqL X.K H a ys) : xs = ys := by
  obtain ⟨its, r, ⟨o, n, e, _, _, d⟩, _⟩ := I.list h
  obtain ⟨its', r', ⟨o', n', e', _, _, d'⟩, _⟩ := I.list h'
  rw [e] at e'; cases e'
  rw [d] at d'
  injection d' with d1 _
  have : its = its' := by simpa using congrArg Array.toList d1
  subst this
  exact r.inj r'
theorem Inv.tuple_inj (I : Inv X pins σ H s) (h : SqT X.K H a xs) (h' : SqT X.K H a ys) : xs = ys := by
  obtain ⟨its, r, ⟨o, e, _, n, d⟩, _⟩ := I.tuple h
  obtain ⟨its', r', ⟨o', e', _, n', d'⟩, _⟩ := I.tuple h'
  rw [e] at e'; cases e'
  rw [d] at d'
  injection d' with d1 _
  have : its = its' := by simpa using congrArg Array.toList d1
  subst this
  exact r.inj r'
end
abbrev Cx.wish (X : Cx) (E : Value → Shared → Prop) : Cx := { X with xe := E }
abbrev Cx.nox (X : Cx) : Cx := X.wish fun _ _ => False
theorem Cx.Ok.wish {X : Cx} (ok : X.Ok) (E : Value → Shared → Prop) : (X.wish E).Ok :=
  ⟨ok.mod, ok.kind, ok.glob, ok.blt, ok.above, ok.inj, ok.has, ok.cab, ok.hd, ok.frames, ok.stk, ok.exf, ok.bs, ok.bsz, ok.noex, ok.exfs, ok.funs, ok.frf⟩
theorem Cx.Ok.unwish {X : Cx} {E : Value → Shared → Prop} (ok : (X.wish E).Ok) : X.Ok :=
  ⟨ok.mod, ok.kind, ok.glob, ok.blt, ok.above, ok.inj, ok.has, ok.cab, ok.hd, ok.frames, ok.stk, ok.exf, ok.bs, ok.bsz, ok.noex, ok.exfs, ok.funs, ok.frf⟩
section
variable {X : Cx} {pins : List (Addr × Obj)} {σ : St} {H : Hp} {s : Shared} {E : Value → Shared → Prop}
theorem Inv.wish (I : Inv X pins σ H s) (E : Value → Shared → Prop) : Inv (X.wish E) pins σ H s := ⟨I.ok.wish E, I.os, I.bare, I.base, I.loc, I.cell, I.free, I.freeC, I.pin, I.hok, I.len⟩
theorem Inv.unwish (I : Inv (X.wish E) pins σ H s) : Inv X pins σ H s := ⟨I.ok.unwish, I.os, I.bare, I.base, I.loc, I.cell, I.free, I.freeC, I.pin, I.hok, I.len⟩
theorem SP.unwish {D : Ends} {f : Flow} {s' : Shared} (h : SP (X.wish E) pins D f s') : SP X pins D f s' := by
  cases f with
  | next => obtain ⟨σ', H', I, q⟩ := h; exact ⟨σ', H', I.unwish, q⟩
  | brk => obtain ⟨σ', H', I, q⟩ := h; exact ⟨σ', H', I.unwish, q⟩
  | cont => obtain ⟨σ', H', I, q⟩ := h; exact ⟨σ', H', I.unwish, q⟩
  | ret u => obtain ⟨v, σ', H', I, r, q⟩ := h; exact ⟨v, σ', H', I.unwish, r, q⟩
theorem PSs.nox {st : List Stmt} {t : TS} (h : PSs X.nox st t) : PSs X st t := fun pins s σ H D I hw =>
  wpAny_mono (h pins s σ H D (I.wish _) hw) (fun _ _ q => q.unwish) fun _ _ z => False.elim z
end
section
variable {X : Cx} {st : Stmt} {rest : List Stmt} {t u : TS} {e : Expr} {te : TE} {pos : Pos}
def tNext : TS := fun D σ H => D.nx σ H
def tSeq (t u : TS) : TS := fun D σ H => t { D with nx := u D } σ H
theorem pss_nil : PSs X [] tNext := fun _ _ σ H _ I h => wpAny_execs_nil ⟨σ, H, I, h⟩
theorem pss_cons (h1 : PS X st t) (h2 : PSs X rest u) : PSs X (st :: rest) (tSeq t u) := by
  intro pins s σ H D I h
  refine wpAny_execs_cons (thn (h1 pins s σ H { D with nx := u D } I h) fun f s1 q => ?_)
  cases f with
  | next =>
    obtain ⟨σ', H', I', q⟩ := q
    exact h2 pins s1 σ' H' D I' q
  | ret v => exact q
  | brk => exact q
  | cont => exact q
theorem pss_one (h1 : PS X st t) : PSs X [st] t := by
  intro pins s σ H D I h
  refine wpAny_execs_cons (thn (h1 pins s σ H D I h) fun f s1 q => ?_)
  cases f with
  | next => exact wpAny_execs_nil q
  | ret v => exact q
  | brk => exact q
  | cont => exact q
theorem Inv.quiet {pins : List (Addr × Obj)} {σ : St} {H : Hp} {s : Shared} (I : Inv X pins σ H s) : interactive X.env = false := by simp [interactive, I.ok.kind]
def tDrop (te : TE) : TS := fun D σ H => te σ H fun _ H1 => D.nx σ H1
theorem ps_expr (he : PE X e te) (hs : swapsWith e none pos.line X.env = pure false := by rfl) : PS X (.Expr e pos) (tDrop te) := by
  intro pins s σ H D I h
  exact wpAny_Expr_any (thn (he pins s σ H _ I h) fun v s1 ⟨x, H1, I1, r1, q1⟩ => ⟨σ, H1, I1, q1⟩) I.quiet hs
def tRet (te : TE) : TS := fun D σ H => te σ H D.rt
theorem ps_ret (he : PE X e te) : PS X (.Return (some e) pos) (tRet te) := by
  intro pins s σ H D I h
  exact wpAny_Return_some (thn (he pins s σ H _ I h) fun v s1 ⟨x, H1, I1, r1, q1⟩ => ⟨x, σ, H1, I1, r1, q1⟩)
def tIfS (c : TT) (t u : TS) : TS := fun D σ H => c σ H fun b H1 => if b = true then t D σ H1 else u D σ H1
theorem ps_if {c : Expr} {a b : List Stmt} {tc : TT} (hc : PT X c tc) (ha : PSs X a t) (hb : PSs X b u) : PS X (.If c a b pos) (tIfS tc t u) := by
  intro pins s σ H D I h
  refine wpAny_If (thn (hc pins s σ H _ I h) fun d s1 ⟨H1, I1, q1⟩ => ?_)
  cases d with
  | true => exact ha pins s1 σ H1 D I1 q1
  | false => exact hb pins s1 σ H1 D I1 q1
def tNever : TS := fun _ _ _ => False
theorem pss_never {sts : List Stmt} : PSs X sts tNever := fun _ _ _ _ _ _ h => h.elim
end
abbrev TG := V → St → Hp → (St → Hp → Prop) → Prop
abbrev TGs := List V → St → Hp → (St → Hp → Prop) → Prop
def PG (X : Cx) (target : Expr) (t : TG) : Prop :=
  ∀ (pins : List (Addr × Obj)) (s : Shared) (σ : St) (H : Hp) (v : V) (u : Value) (Q : St → Hp → Prop), Inv X pins σ H s → RelV v u → t v σ H Q →
    wpAny (model X.prog X.w) X.A (assign target X.env u) (fun _ s' => ∃ σ' H', Inv X pins σ' H' s' ∧ Q σ' H') X.xe s
def PGs (X : Cx) (ts : List Expr) (t : TGs) : Prop :=
  ∀ (pins : List (Addr × Obj)) (s : Shared) (σ : St) (H : Hp) (vs : List V) (us : List Value) (Q : St → Hp → Prop), Inv X pins σ H s → Vals vs us → t vs σ H Q →
    wpAny (model X.prog X.w) X.A (assignInOrder ((assignEach ts X.env).map (·.2)) us) (fun _ s' => ∃ σ' H', Inv X pins σ' H' s' ∧ Q σ' H') X.xe s
abbrev TSet := V → V → V → Hp → (Hp → Prop) → Prop
def PSet (X : Cx) (t : TSet) : Prop :=
  ∀ (pins : List (Addr × Obj)) (s : Shared) (σ : St) (H : Hp) (o i v : V) (ov iv u : Value) (Q : Hp → Prop), Inv X pins σ H s → RelV o ov → RelV i iv → RelV v u → t o i v H Q →
    wpAny (model X.prog X.w) X.A (setItem ov iv u) (fun _ s' => ∃ H', Inv X pins σ H' s' ∧ Q H') X.xe s
section
variable {X : Cx} {pos : Pos}
def gName (i : Nat) : TG := fun v σ H Q => Q (σ.set i (some v)) H
theorem pg_name {i : Nat} {x : Str} (hN : X.N.Nodup) (hi : X.N[i]? = some x) (hx : Loc X.env.scope x) (hf : X.fn x = true ∨ X.env.scope.names.lookup x = some .local := by first | exact .inl rfl | exact .inr rfl | assumption) : PG X (.Name x pos) (gName i) := by
  intro pins s σ H v u Q I r h
  exact wpAny_assign_Name (store_ok I hN hi hx r (fun s' I' => ⟨_, H, I', h⟩) hf)
def gNil : TGs := fun vs σ H Q => vs = [] ∧ Q σ H
def gCons (t : TG) (u : TGs) : TGs := fun vs σ H Q => ∃ v r, vs = v :: r ∧ t v σ H fun σ' H' => u r σ' H' Q
theorem pgs_nil : PGs X [] gNil := by
  intro pins s σ H vs us Q I r h
  obtain ⟨e, h⟩ := h
  subst e
  cases r
  exact assignInOrder_nil ⟨σ, H, I, h⟩
theorem pgs_cons {e : Expr} {es : List Expr} {t : TG} {u : TGs} (h1 : PG X e t) (h2 : PGs X es u)
    (hs : (assignEach (e :: es) X.env).map (·.2) = assign e X.env :: (assignEach es X.env).map (·.2) := by rfl) : PGs X (e :: es) (gCons t u) := by
  intro pins s σ H vs us Q I r h
  obtain ⟨v, vr, e1, h⟩ := h
  subst e1
  cases r with
  | cons r rr =>
    rw [hs]
    refine assignInOrder_cons (thn (h1 pins s σ H _ _ _ I r h) fun _ s1 ⟨σ1, H1, I1, q1⟩ => ?_)
    exact h2 pins s1 σ1 H1 _ _ Q I1 rr q1
def gTup (K : PySem.W.Frag) (n : Nat) (t : TGs) : TG := fun v σ H Q => ∃ a xs, v = .ref a ∧ SqT K H a xs ∧ xs.length = n ∧ t xs σ H Q
theorem pg_tup {es : List Expr} {k : Nat} {t : TGs} {n : Nat} (hc : X.calm = true) (h : PGs X es t)
    (hn : (assignEach es X.env).length = n := by rfl) (hst : (assignEach es X.env).findIdx? (·.1) = none := by rfl) : PG X (.Tuple es k pos) (gTup X.K n t) := by
  intro pins s σ H v u Q I r hw
  obtain ⟨a, xs, e1, hq, hl, hw⟩ := hw
  subst e1
  cases r
  obtain ⟨its, rv, ht, hz⟩ := I.tuple hq
  refine assign_Tuple_tuple (I.ok.hd hc) ht (by simp [hn, ← hl, rv.length]) hst fun h' hx => ?_
  have I1 : Inv X pins σ H { s with heap := h' } := I.kept (t' := s.toks) fun b o e => hx b o (Nat.ne_of_lt (Heap.lt_size e)) e
  exact h pins _ σ H xs _ Q I1 (by simpa using rv) hw
def gSub (to ti : TE) (t : TSet) : TG := fun v σ H Q => to σ H fun o H1 => ti σ H1 fun i H2 => t o i v H2 fun H3 => Q σ H3
theorem pg_sub {o i : Expr} {to ti : TE} {t : TSet} (ho : PE X o to) (hi : PE X i ti) (hs : PSet X t)
    (ha : ∀ v, assign (.Subscript o i pos) X.env v = (do
      let ov ← holding [v] (eval o X.env)
      let iv ← holding [v, ov] (eval i X.env)
      standAt pos
      holding [v, ov, iv] (setItem ov iv v)
      release [v, ov, iv] []) := by intro _; rfl) : PG X (.Subscript o i pos) (gSub to ti t) := by
  intro pins s σ H v u Q I r h
  rw [ha]
  refine wpAny_bind (wpAny_holding (thn (ho pins s σ H _ I h) fun ov s1 ⟨x, H1, I1, r1, q1⟩ => ?_))
  refine wpAny_bind (wpAny_holding (thn (hi pins s1 σ H1 _ I1 q1) fun iv s2 ⟨y, H2, I2, r2, q2⟩ => ?_))
  refine wpAny_bind (wpAny_standAt (wpAny_bind (wpAny_holding (thn (hs pins s2 σ H2 x y v ov iv u _ I2 r1 r2 r q2) fun _ s3 ⟨H3, I3, q3⟩ => ?_))))
  exact wpAny_release ⟨σ, H3, I3, q3⟩
def tAsg (te : TE) (g : TG) : TS := fun D σ H => te σ H fun x H1 => g x σ H1 D.nx
theorem ps_asg {tg e : Expr} {te : TE} {g : TG} (he : PE X e te) (hg : PG X tg g) (hs : swapsWithSole [tg] e pos.line X.env = pure false := by rfl) (hw : swappedStores [tg] e X.env = pure none := by rfl)
    (h1 : (assignEach [tg] X.env).map (·.2) = [assign tg X.env] := by rfl) : PS X (.Assign [tg] e pos) (tAsg te g) := by
  intro pins s σ H D I h
  refine wpAny_Assign_stores (thn (he pins s σ H _ I h) fun v s1 ⟨x, H1, I1, r1, q1⟩ => ?_) hs hw
  rw [h1]
  exact thn (hg pins s1 σ H1 x v _ I1 r1 q1) fun _ s2 q => q
theorem ps_set {i : Nat} {x : Str} {e : Expr} {te : TE} {pos' : Pos} (hN : X.N.Nodup) (hi : X.N[i]? = some x) (hx : Loc X.env.scope x) (he : PE X e te) (hs : swapsWith e (some (.Name x pos')) pos.line X.env = pure false := by rfl) (hf : X.fn x = true ∨ X.env.scope.names.lookup x = some .local := by first | exact .inl rfl | exact .inr rfl | assumption) :
    PS X (.Assign [.Name x pos'] e pos) (tAsg te (gName i)) := by
  intro pins s σ H D I h
  refine wpAny_Assign_Name (thn (he pins s σ H _ I h) fun v s1 ⟨y, H1, I1, r1, q1⟩ => ?_) hs
  exact store_ok I1 hN hi hx r1 (fun s2 I2 => ⟨_, H1, I2, q1⟩) hf
end
section
variable {X : Cx} {pos : Pos}
def tWhile (c : TT) (tb : TS) : TS := fun D σ H => ∃ W : Nat → St → Hp → Prop, (∃ m, W m σ H) ∧ ∀ m σ H, W m σ H →
  c σ H fun b H1 => if b = true then ∃ N : St → Hp → Prop, (∀ σ' H', N σ' H' → ∃ m', m' < m ∧ W m' σ' H') ∧ tb { D with nx := N, ct := N, bk := D.nx } σ H1 else D.nx σ H1
theorem ps_while {c : Expr} {body : List Stmt} {tc : TT} {tb : TS} (hp : PassesOwn (model X.prog X.w) X.A X.env X.xe) (hc : PT X c tc) (hb : PSs X body tb) : PS X (.While c body [] pos) (tWhile tc tb) := by
  intro pins s σ H D I h
  obtain ⟨W, ⟨m0, w0⟩, turn⟩ := h
  refine wpAny_While (codeAny_whileLoop (fun n s' => ∃ σ' H', Inv X pins σ' H' s' ∧ W n σ' H') ?_ m0 ⟨σ, H, I, w0⟩)
  rintro n s1 ⟨σ1, H1, I1, w1⟩
  refine wpAny_passesOwn hp (thn (hc pins s1 σ1 H1 _ I1 (turn n σ1 H1 w1)) fun b s2 ⟨H2, I2, q2⟩ => ?_)
  cases b with
  | true =>
    obtain ⟨N, hN, q2⟩ := q2
    rw [if_pos rfl]
    refine wpAny_passesOwn hp (thn (hb pins s2 σ1 H2 _ I2 q2) fun f s3 q3 => ?_)
    cases f with
    | next =>
      obtain ⟨σ3, H3, I3, n3⟩ := q3
      obtain ⟨m', hm, w3⟩ := hN σ3 H3 n3
      exact ⟨m', hm, σ3, H3, I3, w3⟩
    | cont =>
      obtain ⟨σ3, H3, I3, n3⟩ := q3
      obtain ⟨m', hm, w3⟩ := hN σ3 H3 n3
      exact ⟨m', hm, σ3, H3, I3, w3⟩
    | brk => exact q3
    | ret v => exact q3
  | false =>
    rw [if_neg Bool.false_ne_true]
    exact wpAny_execs_nil ⟨σ1, H2, I2, q2⟩
end
structure It where
  go : Nat → Hp → Prop
  yld : Nat → Hp → V → Hp → Prop
  stop : Nat → Hp → Prop
def FpOk (X : Cx) (pins : List (Addr × Obj)) (H : Hp) (b : Addr) : Prop :=
  H b = none ∧ b ≠ X.env.locals ∧ b ∉ X.fs ∧ (b ∈ X.ex ∨ X.s₀.heap.objs.size ≤ b) ∧ (∀ x c, X.env.cells.lookup x = some c → c ≠ b) ∧ ∀ p ∈ X.pn ++ pins, p.1 ≠ b
theorem Inv.fpOk {X : Cx} {pins : List (Addr × Obj)} {σ : St} {H H' : Hp} {s : Shared} {b : Addr} (I : Inv X pins σ H s) (hb : s.heap.objs.size ≤ b) (hn : H' b = none) : FpOk X pins H' b := by
  refine ⟨hn, Nat.ne_of_gt (Nat.lt_of_lt_of_le I.lt hb), I.nofs hb, .inr (Nat.le_trans I.sz hb), fun x c e z => ?_, fun p hp z => ?_⟩
  · obtain ⟨v, q⟩ := I.cell x c e
    exact absurd (Nat.lt_of_lt_of_le q.lt (by rw [z]; exact hb)) (Nat.lt_irrefl _)
  · exact absurd (Nat.lt_of_lt_of_le (Heap.lt_size (I.pin p hp).1) (by rw [z]; exact hb)) (Nat.lt_irrefl _)
structure Turn (P : Program) (w : World) (K : PySem.W.Frag) (tg : Expr) (J : It) (fp : List Addr) (it : Addr) (tn : Nat → Heap → Prop) : Prop where
  mem : it ∈ fp
  obj : ∀ i h, tn i h → ∀ b ∈ fp, ∃ o, h.get? b = some o ∧ ∀ v, o.data ≠ .cell v
  keep : ∀ i h h', tn i h → (∀ b ∈ fp, ∀ o, h.get? b = some o → h'.get? b = some o) → tn i h'
  item : ∀ (X : Cx), X.prog = P → X.w = w → X.K = K → X.calm = true → ∀ (i : Nat) (pins : List (Addr × Obj)) (s : Shared) (σ : St) (H : Hp) (E : Value → Shared → Prop), Inv X pins σ H s → (∀ b ∈ fp, FpOk X pins H b) → tn i s.heap → J.go i H →
    wpAny (model P w) X.A (pyNext (.ref it)) (fun r s1 => ∃ u, r = some u ∧
      wpAny (model P w) X.A (letOwnedTupleGo tg (.ref it) u) (fun _ s2 => ∃ x H', Inv X pins σ H' s2 ∧ RelV x u ∧ J.yld i H x H' ∧ tn (i + 1) s2.heap ∧ ∀ b ∈ fp, H' b = none) E s1) E s
  done : ∀ (X : Cx), X.prog = P → X.w = w → X.K = K → X.calm = true → ∀ (i : Nat) (pins : List (Addr × Obj)) (s : Shared) (σ : St) (H : Hp) (E : Value → Shared → Prop), Inv X pins σ H s → (∀ b ∈ fp, FpOk X pins H b) → tn i s.heap → J.stop i H →
    wpAny (model P w) X.A (pyNext (.ref it)) (fun r s1 => r = none ∧ Inv X pins σ H s1) E s
  self : ∀ (A : Around) (i : Nat) (s : Shared) (Q : Value → Shared → Prop) (E : Value → Shared → Prop), tn i s.heap → Q (.ref it) s → wpAny (model P w) A (pyIter (.ref it)) Q E s
abbrev TI := St → Hp → (It → Hp → Prop) → Prop
def PIE (X : Cx) (pins : List (Addr × Obj)) (σ : St) (tg : Expr) (R : It → Hp → Prop) (itv : Value) (s2 : Shared) : Prop :=
  ∃ (it : Addr) (fp : List Addr) (tn : Nat → Heap → Prop) (J : It) (H' : Hp), itv = .ref it ∧ Inv X pins σ H' s2 ∧ Turn X.prog X.w X.K tg J fp it tn ∧ tn 0 s2.heap ∧ (∀ b ∈ fp, FpOk X pins H' b) ∧ R J H'
def PI (X : Cx) (tg iter : Expr) (wi : TI) : Prop :=
  ∀ (pins : List (Addr × Obj)) (s : Shared) (σ : St) (H : Hp) (R : It → Hp → Prop), Inv X pins σ H s → wi σ H R →
    wpAny (model X.prog X.w) X.A (eval iter X.env) (fun v s1 => wpAny (model X.prog X.w) X.A (pyIter v) (PIE X pins σ tg R) X.xe s1) X.xe s
theorem go_of {M : Model} {A : Around} {E : Value → Shared → Prop} {s : Shared} {tg : Expr} {it : Addr} {u : Value} {o : Obj} {n : String} {vs : Array Value} {Q : Unit → Shared → Prop} (ho : s.heap.get? it = some o) (hc : o.cls = .type n) (hd : o.data = .fields vs)
    (hn : ["enumerate", "zip", "dict_itemiterator", "dict_reverseitemiterator", "odict_iterator", "itertools.zip_longest", "itertools.pairwise"].contains n = false) (hQ : Q () s) : wpAny M A (letOwnedTupleGo tg (.ref it) u) Q E s := by
  unfold letOwnedTupleGo
  cases tg <;> first
    | exact wpAny_pure hQ
    | (cases u <;> first
        | exact wpAny_pure hQ
        | (refine wpAny_bind (wpAny_load ho ?_)
           rw [hc, hd]
           show wpAny M A (if (["enumerate", "zip", "dict_itemiterator", "dict_reverseitemiterator", "odict_iterator", "itertools.zip_longest", "itertools.pairwise"].contains n && vs[0]? == some (rawInt _)) = true then _ else _) Q E s
           rw [if_neg (by intro h; rw [hn, Bool.false_and] at h; cases h)]
           exact wpAny_pure hQ))
def Itl (K : PySem.W.Frag) (a : Addr) : It :=
  ⟨fun i H => ∃ xs x, SqL K H a xs ∧ xs[i]? = some x, fun i H x H' => H' = H ∧ ∀ xs, SqL K H a xs → xs[i]? = some x, fun i H => ∃ xs, SqL K H a xs ∧ xs.length ≤ i⟩
def Itt (K : PySem.W.Frag) (a : Addr) : It :=
  ⟨fun i H => ∃ xs x, SqT K H a xs ∧ xs[i]? = some x, fun i H x H' => H' = H ∧ ∀ xs, SqT K H a xs → xs[i]? = some x, fun i H => ∃ xs, SqT K H a xs ∧ xs.length ≤ i⟩
def Itr (lo : Int) (n : Nat) : It := ⟨fun i _ => i < n, fun i H x H' => H' = H ∧ x = .int (lo + i), fun i _ => n ≤ i⟩
theorem turn_list {P : Program} {w : World} {K : PySem.W.Frag} {tg : Expr} (a it : Addr) : Turn P w K tg (Itl K a) [it] it (fun i h => h.IsListIter it a i) where
  mem := by simp
  obj := fun i h st b hb => by
    have e : b = it := by simpa using hb
    subst e
    obtain ⟨o, e, c, d⟩ := st
    exact ⟨o, e, fun v z => by rw [d] at z; cases z⟩
  keep := fun i h h' st k => st.at fun o e => k it (by simp) o e
  item := by
    intro X hP hw hK hc i pins s σ H E I hf st hg
    subst hP hw hK
    obtain ⟨xs, x, hq, hx⟩ := hg
    obtain ⟨its, rv, p, hz⟩ := I.list hq
    obtain ⟨u, hu, ru⟩ := rv.get hx
    obtain ⟨f0, f1, f2, f3, f4, f5⟩ := hf it (by simp)
    refine wpAny_pyNext_list_item st p.isList (x := u) (by simpa using hu) fun h' st' sb => ?_
    have I1 : Inv X pins σ H { s with heap := h' } := I.turned (t' := s.toks) (fun b o hb e => (sb.2 b hb).trans e) f0 f1 f3 f4 f5
    obtain ⟨o, e, c, d⟩ := id st'
    exact ⟨u, rfl, go_of (s := { s with heap := h' }) e c d (by decide) ⟨x, H, I1, ru, ⟨rfl, fun ys hy => by rw [I.list_inj hy hq]; exact hx⟩, st', fun b hb => (hf b hb).1⟩⟩
  done := by
    intro X hP hw hK hc i pins s σ H E I hf st hg
    subst hP hw hK
    obtain ⟨xs, hq, hx⟩ := hg
    obtain ⟨its, rv, p, hz⟩ := I.list hq
    obtain ⟨f0, f1, f2, f3, f4, f5⟩ := hf it (by simp)
    have hl := rv.length
    exact wpAny_pyNext_list_end (I.ok.hd hc) st p.isList (by simp; omega) fun h' eb => ⟨rfl, I.turned (t' := s.toks) (fun b o hb e => eb b o hb e) f0 f1 f3 f4 f5⟩
  self := fun _ _ _ _ _ st h => wpAny_pyIter_listiter st h
theorem turn_tuple {P : Program} {w : World} {K : PySem.W.Frag} {tg : Expr} (a it : Addr) : Turn P w K tg (Itt K a) [it] it (fun i h => h.IsTupleIter it a i) where
  mem := by simp
  obj := fun i h st b hb => by
    have e : b = it := by simpa using hb
    subst e
    obtain ⟨o, e, c, d⟩ := st
    exact ⟨o, e, fun v z => by rw [d] at z; cases z⟩
  keep := fun i h h' st k => st.at fun o e => k it (by simp) o e
  item := by
    intro X hP hw hK hc i pins s σ H E I hf st hg
    subst hP hw hK
    obtain ⟨xs, x, hq, hx⟩ := hg
    obtain ⟨its, rv, p, hz⟩ := I.tuple hq
    obtain ⟨u, hu, ru⟩ := rv.get hx
    obtain ⟨f0, f1, f2, f3, f4, f5⟩ := hf it (by simp)
    refine wpAny_pyNext_tuple_item st (show s.heap.IsTuple a its.toArray from p) (x := u) (by simpa using hu) fun h' st' sb => ?_
    have I1 : Inv X pins σ H { s with heap := h' } := I.turned (t' := s.toks) (fun b o hb e => (sb.2 b hb).trans e) f0 f1 f3 f4 f5
    obtain ⟨o, e, c, d⟩ := id st'
    exact ⟨u, rfl, go_of (s := { s with heap := h' }) e c d (by decide) ⟨x, H, I1, ru, ⟨rfl, fun ys hy => by rw [I.tuple_inj hy hq]; exact hx⟩, st', fun b hb => (hf b hb).1⟩⟩
  done := by
    intro X hP hw hK hc i pins s σ H E I hf st hg
    subst hP hw hK
    obtain ⟨xs, hq, hx⟩ := hg
    obtain ⟨its, rv, p, hz⟩ := I.tuple hq
    obtain ⟨f0, f1, f2, f3, f4, f5⟩ := hf it (by simp)
    have hl := rv.length
    exact wpAny_pyNext_tuple_end (I.ok.hd hc) st (show s.heap.IsTuple a its.toArray from p) (by simp; omega) fun h' eb => ⟨rfl, I.turned (t' := s.toks) (fun b o hb e => eb b o hb e) f0 f1 f3 f4 f5⟩
  self := fun _ _ _ _ _ st h => wpAny_pyIter_tupleiter st h
theorem turn_range {P : Program} {w : World} {K : PySem.W.Frag} {tg : Expr} (it : Addr) (lo : Int) (n : Nat) : Turn P w K tg (Itr lo n) [it] it (fun i h => IsRangeIter h it (lo + (i : Nat) * 1) ((n : Int) - (i : Nat)) 1) where
  mem := by simp
  obj := fun i h st b hb => by
    have e : b = it := by simpa using hb
    subst e
    exact ⟨_, st, fun v z => by
      have z' : Data.fields _ = Data.cell v := z
      cases z'⟩
  keep := fun i h h' st k => k it (by simp) _ st
  item := by
    intro X hP hw hK hc i pins s σ H E I hf st hg
    subst hP hw hK
    obtain ⟨f0, f1, f2, f3, f4, f5⟩ := hf it (by simp)
    have W := Walks.range (prog := X.prog) (w := X.w) (I.ok.hd hc) it lo 1 n
    refine W.item i s _ _ hg st fun v h' tk hv st' kk => ?_
    obtain ⟨t, rfl⟩ := hv
    have I1 : Inv X pins σ H { s with heap := h', toks := tk } := I.turned (fun b o hb e => kk b o (by simpa using hb) e) f0 f1 f3 f4 f5
    refine ⟨_, rfl, go_of (s := { s with heap := h', toks := tk }) (n := "range_iterator") st' rfl rfl (by decide) ⟨.int (lo + i), H, I1, ⟨t, ?_⟩, ⟨rfl, rfl⟩, st', fun b hb => (hf b hb).1⟩⟩
    rw [Int.mul_one]
  done := by
    intro X hP hw hK hc i pins s σ H E I hf st hg
    subst hP hw hK
    obtain ⟨f0, f1, f2, f3, f4, f5⟩ := hf it (by simp)
    exact wpAny_pyNext_range_end (I.ok.hd hc) st (by have : n ≤ i := hg; omega) fun h' eb => ⟨rfl, I.turned (t' := s.toks) (fun b o hb e => eb b o hb e) f0 f1 f3 f4 f5⟩
  self := fun _ _ _ _ _ st h => wpAny_pyIter_rangeiter st h
end L2
namespace L2
open PySem PySem.Spec PyProof.Rows
section
variable {X : Cx} {tg : Expr}
def iList (K : PySem.W.Frag) (tl : TE) : TI := fun σ H R => tl σ H fun x H1 => ∃ a, x = .ref a ∧ (∃ xs, SqL K H1 a xs) ∧ R (Itl K a) H1
def iTup (K : PySem.W.Frag) (tl : TE) : TI := fun σ H R => tl σ H fun x H1 => ∃ a, x = .ref a ∧ (∃ xs, SqT K H1 a xs) ∧ R (Itt K a) H1
theorem pi_list {l : Expr} {tl : TE} (hl : PE X l tl) : PI X tg l (iList X.K tl) := by
  intro pins s σ H R I h
  refine thn (hl pins s σ H _ I h) fun v s1 ⟨x, H1, I1, r1, q1⟩ => ?_
  obtain ⟨a, e, ⟨xs, hq⟩, q⟩ := q1
  subst e
  cases r1
  obtain ⟨its, rv, p, hz⟩ := I1.list hq
  refine wpAny_pyIter_list p.isList ?_
  refine ⟨s1.heap.objs.size, [s1.heap.objs.size], _, _, H1, rfl, I1.kept (t' := s1.toks) fun b o e => Heap.get?_push_of_some _ e, turn_list a _, ⟨_, Heap.get?_push_size _ rfl, rfl, rfl⟩, fun b hb => ?_, q⟩
  have e : b = s1.heap.objs.size := by simpa using hb
  subst e
  exact I1.fpOk (Nat.le_refl _) (I1.hok.fresh (Nat.le_refl _))
theorem pi_tup {l : Expr} {tl : TE} (hl : PE X l tl) : PI X tg l (iTup X.K tl) := by
  intro pins s σ H R I h
  refine thn (hl pins s σ H _ I h) fun v s1 ⟨x, H1, I1, r1, q1⟩ => ?_
  obtain ⟨a, e, ⟨xs, hq⟩, q⟩ := q1
  subst e
  cases r1
  obtain ⟨its, rv, p, hz⟩ := I1.tuple hq
  refine wpAny_pyIter_tuple (show s1.heap.IsTuple a its.toArray from p) ?_
  refine ⟨s1.heap.objs.size, [s1.heap.objs.size], _, _, H1, rfl, I1.kept (t' := s1.toks) fun b o e => Heap.get?_push_of_some _ e, turn_tuple a _, ⟨_, Heap.get?_push_size _ rfl, rfl, rfl⟩, fun b hb => ?_, q⟩
  have e : b = s1.heap.objs.size := by simpa using hb
  subst e
  exact I1.fpOk (Nat.le_refl _) (I1.hok.fresh (Nat.le_refl _))
theorem range_it {pins : List (Addr × Obj)} {σ : St} {H : Hp} {s : Shared} {R : It → Hp → Prop} {E : Value → Shared → Prop} {lo hi : Int} {t u v : Tok} {tk : Nat} (I : Inv X pins σ H s) (h1 : -(2 ^ 62) ≤ lo) (h2 : lo < 2 ^ 62) (h3 : -(2 ^ 62) ≤ hi) (h4 : hi < 2 ^ 62)
    (q : R (Itr lo (hi - lo).toNat) H) : wpAny (model X.prog X.w) X.A (pyIter (.ref s.heap.objs.size)) (PIE X pins σ tg R) E { s with heap := s.heap.push { cls := .type "range", data := .fields #[.int lo t, .int hi u, .int 1 v] }, toks := tk } := by
  refine wpAny_pyIter_range (IsRange.new ..) (small_one h1 h2 h3 h4) ?_
  have I1 : Inv X pins σ H { s with heap := s.heap.push { cls := .type "range", data := .fields #[.int lo t, .int hi u, .int 1 v] }, toks := tk } := I.kept fun b o e => Heap.get?_push_of_some _ e
  refine ⟨(s.heap.push { cls := .type "range", data := .fields #[.int lo t, .int hi u, .int 1 v] }).objs.size, [(s.heap.push { cls := .type "range", data := .fields #[.int lo t, .int hi u, .int 1 v] }).objs.size], _, _, H, rfl,
    I1.kept (t' := tk) fun b o e => Heap.get?_push_of_some _ e, turn_range _ lo (hi - lo).toNat, ?_, fun b hb => ?_, q⟩
  · have e1 : lo + ((0 : Nat) : Int) * 1 = lo := by simp
    have e2 : (((hi - lo).toNat : Nat) : Int) - ((0 : Nat) : Int) = Builtin.Range.rangeSize lo hi 1 := by rw [rangeSize_one]; split <;> omega
    show IsRangeIter _ _ (lo + ((0 : Nat) : Int) * 1) ((((hi - lo).toNat : Nat) : Int) - ((0 : Nat) : Int)) 1
    rw [e1, e2]
    exact Heap.get?_push_size _ rfl
  · have e : b = (s.heap.push { cls := .type "range", data := .fields #[.int lo t, .int hi u, .int 1 v] }).objs.size := by simpa using hb
    subst e
    exact I1.fpOk (Nat.le_refl _) (I1.hok.fresh (Nat.le_refl _))
def iRng1 (ta : TA) : TI := fun σ H R => ta σ H fun vs H1 => ∃ j : Int, vs = [.int j] ∧ -(2 ^ 62) ≤ j ∧ j < 2 ^ 62 ∧ R (Itr 0 j.toNat) H1
theorem pi_range1 {a : Expr} {ta : TA} {p pos : Pos} (hg : Gl X "range") (hm : X.mg "range" = none) (ha : PA X [a] ta) (hs : starEach [a] X.env = [(false, eval a X.env)] := by rfl) : PI X tg (.Call (.Name "range" p) [a] [] pos) (iRng1 ta) := by
  intro pins s σ H R I h
  refine Call_ (ld_blt I hg hm boot_range (PyProof.Rows.callWith_type1 (thn (ha pos pins s σ H _ I h) fun us s1 ⟨vs, H1, I1, r1, q1⟩ => ?_) hs rfl))
  obtain ⟨j, e, q1, q2, q⟩ := q1
  subst e
  cases r1 with
  | cons r rr =>
    cases rr
    obtain ⟨t, rfl⟩ := r
    exact call_range_1 (range_it I1 (by omega) (by omega) q1 q2 (by simpa using q))
def tFor (wi : TI) (g : TG) (tb : TS) : TS := fun D σ H => wi σ H fun J H1 => ∃ W : Nat → Nat → St → Hp → Prop, (∃ m, W 0 m σ H1) ∧ ∀ i m σ H, W i m σ H →
  (J.stop i H ∧ D.nx σ H) ∨ (J.go i H ∧ ∃ N : St → Hp → Prop, (∀ σ' H', N σ' H' → ∃ m', m' < m ∧ W (i + 1) m' σ' H') ∧ ∀ x H', J.yld i H x H' → g x σ H' fun σ2 H2 => tb { D with nx := N, ct := N, bk := D.nx } σ2 H2)
def pinsAt (fp : List Addr) (h : Heap) : List (Addr × Obj) := fp.filterMap fun b => (h.get? b).map fun o => (b, o)
theorem mem_pinsAt {fp : List Addr} {h : Heap} {b : Addr} {o : Obj} (hb : b ∈ fp) (e : h.get? b = some o) : (b, o) ∈ pinsAt fp h := List.mem_filterMap.mpr ⟨b, hb, by rw [e]; rfl⟩
theorem of_pinsAt {fp : List Addr} {h : Heap} {p : Addr × Obj} (hp : p ∈ pinsAt fp h) : p.1 ∈ fp ∧ h.get? p.1 = some p.2 := by
  obtain ⟨b, hb, e⟩ := List.mem_filterMap.mp hp
  cases q : h.get? b with
  | none => rw [q] at e; cases e
  | some o =>
    rw [q] at e
    have e' : (b, o) = p := Option.some.inj e
    subst e'
    exact ⟨hb, q⟩
theorem Inv.pinned {pins : List (Addr × Obj)} {σ : St} {H : Hp} {s : Shared} {fp : List Addr} (I : Inv X pins σ H s) (hf : ∀ b ∈ fp, FpOk X pins H b) (ho : ∀ b ∈ fp, ∃ o, s.heap.get? b = some o ∧ ∀ v, o.data ≠ .cell v) : Inv X (pins ++ pinsAt fp s.heap) σ H s :=
  I.pins_of fun p hp => (List.mem_append.mp hp).elim (fun z => I.pin p (List.mem_append_right _ z)) fun z => by
    obtain ⟨hb, e⟩ := of_pinsAt z
    obtain ⟨f0, f1, f2, _⟩ := hf p.1 hb
    obtain ⟨o, e', d⟩ := ho p.1 hb
    rw [e] at e'; cases e'
    exact ⟨e, f0, f1, f2, d⟩
theorem Inv.unpinned {pins pl : List (Addr × Obj)} {σ : St} {H : Hp} {s : Shared} (I : Inv X (pins ++ pl) σ H s) : Inv X pins σ H s := I.pins_of fun p hp => I.pin p (List.mem_append_right _ (List.mem_append_left _ hp))
theorem ps_for {iter : Expr} {body : List Stmt} {wi : TI} {g : TG} {tb : TS} {pos : Pos} (hp : PassesOwn (model X.prog X.w) X.A X.env X.xe) (hc : X.calm = true) (hi : PI X tg iter wi) (hg : PG X tg g) (hb : PSs X body tb)
    (hs : ∀ x, foldedSetIterable iter X.env x = pure x := by intro _; rfl) : PS X (.For tg iter body [] pos) (tFor wi g tb) := by
  intro pins s σ H D I h
  refine wpAny_For (thn (hi pins s σ H _ I h) fun v s1 h1 => thn h1 fun itv s2 h2 => ?_) hs
  obtain ⟨it, fp, tn, J, H2, e, I2, T, st2, f2, W, ⟨m0, w0⟩, turn⟩ := h2
  subst e
  have stat : ∀ {H' : Hp}, (∀ b ∈ fp, H' b = none) → ∀ b ∈ fp, FpOk X pins H' b := fun hn b hb => ⟨hn b hb, (f2 b hb).2⟩
  refine codeAny_forLoop_any (fun n s' => ∃ i σ' H', Inv X pins σ' H' s' ∧ tn i s'.heap ∧ (∀ b ∈ fp, H' b = none) ∧ W i n σ' H') ?_ m0 ⟨0, σ, H2, I2, st2, fun b hb => (f2 b hb).1, w0⟩
  rintro n s3 ⟨i, σ3, H3, I3, st3, fr3, w3⟩
  rcases turn i n σ3 H3 w3 with ⟨stop, qn⟩ | ⟨go, N, hN, step⟩
  · refine wpAny_passesOwn hp (thn (T.done X rfl rfl rfl hc i pins s3 σ3 H3 X.xe I3 (stat fr3) st3 stop) fun r s4 ⟨hr, I4⟩ => ?_)
    subst hr
    exact wpAny_execs_nil ⟨σ3, H3, I4, qn⟩
  · refine wpAny_passesOwn hp (thn (T.item X rfl rfl rfl hc i pins s3 σ3 H3 X.xe I3 (stat fr3) st3 go) fun r s4 ⟨u, hr, h4⟩ => ?_)
    subst hr
    refine wpAny_passesOwn hp (thn h4 fun _ s5 ⟨x, H5, I5, r5, y5, st5, fr5⟩ => ?_)
    have I5' := I5.pinned (stat fr5) (T.obj _ _ st5)
    refine wpAny_passesOwn hp (thn (hg _ s5 σ3 H5 x u _ I5' r5 (step x H5 y5)) fun _ s6 ⟨σ6, H6, I6, q6⟩ => ?_)
    refine wpAny_passesOwn hp (thn (hb _ s6 σ6 H6 _ I6 q6) fun f s7 q7 => ?_)
    have again : ∀ {σ7 : St} {H7 : Hp}, Inv X (pins ++ pinsAt fp s5.heap) σ7 H7 s7 → N σ7 H7 → ∃ m, m < n ∧ ∃ i σ' H', Inv X pins σ' H' s7 ∧ tn i s7.heap ∧ (∀ b ∈ fp, H' b = none) ∧ W i m σ' H' := fun {σ7 H7} I7 n7 => by
      obtain ⟨m', hm, w7⟩ := hN σ7 H7 n7
      refine ⟨m', hm, i + 1, σ7, H7, I7.unpinned, T.keep _ _ _ st5 fun b hb o e => (I7.pin (b, o) (List.mem_append_right _ (List.mem_append_right _ (mem_pinsAt hb e)))).1, fun b hb => ?_, w7⟩
      obtain ⟨o, e, d⟩ := T.obj _ _ st5 b hb
      exact (I7.pin (b, o) (List.mem_append_right _ (List.mem_append_right _ (mem_pinsAt hb e)))).2.1
    cases f with
    | next => obtain ⟨σ7, H7, I7, n7⟩ := q7; exact again I7 n7
    | cont => obtain ⟨σ7, H7, I7, n7⟩ := q7; exact again I7 n7
    | brk => obtain ⟨σ7, H7, I7, q7⟩ := q7; exact ⟨σ7, H7, I7.unpinned, q7⟩
    | ret v => obtain ⟨x7, σ7, H7, I7, r7, q7⟩ := q7; exact ⟨x7, σ7, H7, I7.unpinned, r7, q7⟩
end
end L2
namespace L2
open PySem PySem.Spec PyProof.Rows
abbrev R2 := V → V → Hp → VK → Prop
def OpR (X : Cx) (f : Value → Value → Sem Value) (r : R2) : Prop :=
  ∀ (pins : List (Addr × Obj)) (s : Shared) (σ : St) (H : Hp) (x y : V) (v u : Value) (Q : VK), Inv X pins σ H s → RelV x v → RelV y u → r x y H Q →
    wpAny (model X.prog X.w) X.A (f v u) (EP X pins σ Q) X.xe s
def UnR (X : Cx) (f : Value → Sem Value) (r : V → Hp → VK → Prop) : Prop :=
  ∀ (pins : List (Addr × Obj)) (s : Shared) (σ : St) (H : Hp) (x : V) (v : Value) (Q : VK), Inv X pins σ H s → RelV x v → r x H Q →
    wpAny (model X.prog X.w) X.A (f v) (EP X pins σ Q) X.xe s
def CallR (X : Cx) (f : Value) (r : List V → Hp → VK → Prop) : Prop :=
  ∀ (pins : List (Addr × Obj)) (s : Shared) (σ : St) (H : Hp) (xs : List V) (us : List Value) (Q : VK), Inv X pins σ H s → Vals xs us → r xs H Q →
    wpAny (model X.prog X.w) X.A (call f us) (EP X pins σ Q) X.xe s
def TruR (X : Cx) (r : V → Hp → (Bool → Hp → Prop) → Prop) : Prop :=
  ∀ (pins : List (Addr × Obj)) (s : Shared) (σ : St) (H : Hp) (x : V) (v : Value) (Q : Bool → Hp → Prop), Inv X pins σ H s → RelV x v → r x H Q →
    wpAny (model X.prog X.w) X.A (truthy v) (TP X pins σ Q) X.xe s
def tOp (r : R2) (ta tb : TE) : TE := fun σ H Q => ta σ H fun x H1 => tb σ H1 fun y H2 => r x y H2 Q
def tUn (r : V → Hp → VK → Prop) (ta : TE) : TE := fun σ H Q => ta σ H fun x H1 => r x H1 Q
def rI (C : Int → Int → Prop) (g : Int → Int → V) : R2 := fun x y H Q => ∃ i j, x = .int i ∧ y = .int j ∧ C i j ∧ Q (g i j) H
def rI0 (g : Int → Int → V) : R2 := fun x y H Q => ∃ i j, x = .int i ∧ y = .int j ∧ Q (g i j) H
def rU (g : Int → V) : V → Hp → VK → Prop := fun x H Q => ∃ i, x = .int i ∧ Q (g i) H
section
variable {X : Cx} {a b c : Expr} {ta tb tc : TE} {pos : Pos}
theorem binT (ha : PE X a ta) (hb : PE X b tb) {pins : List (Addr × Obj)} {s : Shared} {σ : St} {H : Hp} {R : V → V → Hp → Prop} (I : Inv X pins σ H s)
    (h : ta σ H fun x H1 => tb σ H1 fun y H2 => R x y H2) {Q : Value → Shared → Prop} {f : Value → Value → Sem Value}
    (hf : ∀ v u s2 x y H2, Inv X pins σ H2 s2 → RelV x v → RelV y u → R x y H2 → wpAny (model X.prog X.w) X.A (f v u) Q X.xe s2) :
    wpAny (model X.prog X.w) X.A (eval a X.env) (fun v s₁ => wpAny (model X.prog X.w) X.A (eval b X.env) (fun u s₂ => wpAny (model X.prog X.w) X.A (f v u) Q X.xe s₂) X.xe s₁) X.xe s := by
  refine thn (ha pins s σ H _ I h) fun v s1 ⟨x, H1, I1, r1, q1⟩ => ?_
  refine thn (hb pins s1 σ H1 _ I1 q1) fun u s2 ⟨y, H2, I2, r2, q2⟩ => ?_
  exact hf v u s2 x y H2 I2 r1 r2 q2
theorem pe_op {op : Operator} {r : R2} (ho : OpR X (binaryOp op) r) (ha : PE X a ta) (hb : PE X b tb) : PE X (.BinOp a op b pos) (tOp r ta tb) := by
  intro pins s σ H Q I h
  exact wpAny_BinOp (binT ha hb I h fun v u s2 x y H2 I2 rx ry q => ho pins s2 σ H2 x y v u Q I2 rx ry q)
theorem pe_un {op : UnaryOp} {r : V → Hp → VK → Prop} (ho : UnR X (unaryOp op) r) (ha : PE X a ta) : PE X (.UnaryOp op a pos) (tUn r ta) := by
  intro pins s σ H Q I h
  exact UnaryOp_ (thn (ha pins s σ H _ I h) fun v s1 ⟨x, H1, I1, r1, q1⟩ => ho pins s1 σ H1 x v Q I1 r1 q1)
theorem opI {f : Value → Value → Sem Value} {C : Int → Int → Prop} {g : Int → Int → Int}
    (rule : ∀ (i j : Int) (t u : Tok) (s : Shared) (Q : Value → Shared → Prop) (E : Value → Shared → Prop), C i j → Q (.int (g i j) s.toks) { s with toks := s.toks + 1 } → wpAny (model X.prog X.w) X.A (f (.int i t) (.int j u)) Q E s) :
    OpR X f (rI C fun i j => .int (g i j)) := by
  intro pins s σ H x y v u Q I rx ry h
  obtain ⟨i, j, rfl, rfl, hc, q⟩ := h
  obtain ⟨t, rfl⟩ := rx
  obtain ⟨t', rfl⟩ := ry
  exact rule i j t t' s _ _ hc ⟨.int (g i j), H, I.tok _, ⟨_, rfl⟩, q⟩
theorem opI0 {f : Value → Value → Sem Value} {g : Int → Int → Int}
    (rule : ∀ (i j : Int) (t u : Tok) (s : Shared) (Q : Value → Shared → Prop) (E : Value → Shared → Prop), Q (.int (g i j) s.toks) { s with toks := s.toks + 1 } → wpAny (model X.prog X.w) X.A (f (.int i t) (.int j u)) Q E s) :
    OpR X f (rI0 fun i j => .int (g i j)) := by
  intro pins s σ H x y v u Q I rx ry h
  obtain ⟨i, j, rfl, rfl, q⟩ := h
  obtain ⟨t, rfl⟩ := rx
  obtain ⟨t', rfl⟩ := ry
  exact rule i j t t' s _ _ ⟨.int (g i j), H, I.tok _, ⟨_, rfl⟩, q⟩
theorem opB0 {f : Value → Value → Sem Value} {g : Int → Int → Bool}
    (rule : ∀ (i j : Int) (t u : Tok) (s : Shared) (Q : Value → Shared → Prop) (E : Value → Shared → Prop), Q (.bool (g i j)) s → wpAny (model X.prog X.w) X.A (f (.int i t) (.int j u)) Q E s) :
    OpR X f (rI0 fun i j => .bl (g i j)) := by
  intro pins s σ H x y v u Q I rx ry h
  obtain ⟨i, j, rfl, rfl, q⟩ := h
  obtain ⟨t, rfl⟩ := rx
  obtain ⟨t', rfl⟩ := ry
  exact rule i j t t' s _ _ ⟨.bl (g i j), H, I, rfl, q⟩
def CDiv (i j : Int) : Prop := 0 < j ∧ j < 1073741824
def CPow (i j : Int) : Prop := 0 ≤ j ∧ j ≤ 1000000 ∧ i.natAbs < 2 ^ 64
def CMul (i j : Int) : Prop := (-(2 ^ 64) < i ∧ i < 2 ^ 64) ∨ (-(2 ^ 64) < j ∧ j < 2 ^ 64)
theorem CMul.ok {i j : Int} (h : CMul i j) : IntMulOk i j := by
  rcases h with ⟨h1, h2⟩ | ⟨h1, h2⟩
  · exact .of_left (intBits_le_64 h1 h2)
  · exact .of_right (intBits_le_64 h1 h2)
theorem op_add : OpR X (binaryOp .Add) (rI0 fun i j => .int (i + j)) := opI0 fun _ _ _ _ _ _ _ q => add_int q
theorem op_sub : OpR X (binaryOp .Sub) (rI0 fun i j => .int (i - j)) := opI0 fun _ _ _ _ _ _ _ q => sub_int q
theorem op_mul : OpR X (binaryOp .Mult) (rI CMul fun i j => .int (i * j)) := opI fun _ _ _ _ _ _ _ hc q => mul_int q hc.ok
theorem op_fdiv : OpR X (binaryOp .FloorDiv) (rI CDiv fun i j => .int (i / j)) := opI fun i j _ _ _ _ _ hc q => by
  have h1 : (0 : Int) < j := hc.1
  have h2 : j < 1073741824 := hc.2
  exact floordiv_int (by omega) (by rw [Int.fdiv_eq_ediv_of_nonneg i (by omega)]; exact q) (.inl (PyProof.noPylong_small (by omega)))
theorem op_mod : OpR X (binaryOp .Mod) (rI (fun _ j => 0 < j) fun i j => .int (i % j)) := opI fun i j _ _ _ _ _ hc q => by
  have h1 : (0 : Int) < j := hc
  exact mod_int' (by omega) (by rw [Int.fmod_eq_emod_of_nonneg i (by omega)]; exact q)
theorem op_pow : OpR X (binaryOp .Pow) (rI CPow fun i j => .int (i ^ j.toNat)) := opI fun _ _ _ _ _ _ _ hc q => pow_int_small hc.1 hc.2.1 hc.2.2 q
theorem unI {f : Value → Sem Value} {g : Int → Int}
    (rule : ∀ (i : Int) (t : Tok) (s : Shared) (Q : Value → Shared → Prop) (E : Value → Shared → Prop), Q (.int (g i) s.toks) { s with toks := s.toks + 1 } → wpAny (model X.prog X.w) X.A (f (.int i t)) Q E s) :
    UnR X f (rU fun i => .int (g i)) := by
  intro pins s σ H x v Q I rx h
  obtain ⟨i, rfl, q⟩ := h
  obtain ⟨t, rfl⟩ := rx
  exact rule i t s _ _ ⟨.int (g i), H, I.tok _, ⟨_, rfl⟩, q⟩
theorem un_neg : UnR X (unaryOp .USub) (rU fun i => .int (-i)) := unI fun _ _ _ _ _ q => neg_int q
end
section
variable {X : Cx} {a b c : Expr} {ta tb tc : TE} {pos : Pos}
theorem op_lt : OpR X (compareOp .Lt) (rI0 fun i j => .bl (decide (i < j))) := opB0 fun _ _ _ _ _ _ _ q => lt_int q
theorem op_gt : OpR X (compareOp .Gt) (rI0 fun i j => .bl (decide (j < i))) := opB0 fun _ _ _ _ _ _ _ q => gt_int q
theorem op_ge : OpR X (compareOp .GtE) (rI0 fun i j => .bl (decide (j ≤ i))) := opB0 fun _ _ _ _ _ _ _ q => ge_int q
theorem OpR.or {f : Value → Value → Sem Value} {r r' : R2} (h : OpR X f r) (h' : OpR X f r') : OpR X f (fun x y H Q => r x y H Q ∨ r' x y H Q) := by
  intro pins s σ H x y v u Q I rx ry q
  rcases q with q | q
  · exact h pins s σ H x y v u Q I rx ry q
  · exact h' pins s σ H x y v u Q I rx ry q
theorem nomark (b : Expr) {op : CmpOp} (h : op ≠ .In := by decide) (h2 : op ≠ .NotIn := by decide) : behindInMarks op b = false := by
  have e1 : (op == CmpOp.In) = false := by cases op <;> first | rfl | exact absurd rfl h
  have e2 : (op == CmpOp.NotIn) = false := by cases op <;> first | rfl | exact absurd rfl h2
  cases b <;> simp [behindInMarks, e1, e2]
theorem pe_cmpR {op : CmpOp} {r : R2} (ho : OpR X (compareOp op) r) (ha : PE X a ta) (hb : PE X b tb) (hm : behindInMarks op b = false) : PE X (.Compare a [op] [b] pos) (tOp r ta tb) := by
  intro pins s σ H Q I h
  exact wpAny_Compare1 (binT ha hb I h fun v u s2 x y H2 I2 rx ry q => ho pins s2 σ H2 x y v u Q I2 rx ry q) hm
def tTest (t : TE) : TT := fun σ H Q => t σ H fun x H' => ∃ k, x = .bl k ∧ Q k H'
theorem pt_cmpR {op : CmpOp} {r : R2} (ho : OpR X (compareOp op) r) (ha : PE X a ta) (hb : PE X b tb) (hm : behindInMarks op b = false) : PT X (.Compare a [op] [b] pos) (tTest (tOp r ta tb)) := by
  intro pins s σ H Q I h
  refine wpAny_isTrue_Compare1 (thn (ha pins s σ H _ I h) fun v s1 ⟨x, H1, I1, r1, q1⟩ => thn (hb pins s1 σ H1 _ I1 q1) fun u s2 ⟨y, H2, I2, r2, q2⟩ =>
    thn (ho pins s2 σ H2 x y v u _ I2 r1 r2 q2) fun c s3 ⟨z, H3, I3, r3, k, e, q3⟩ => ?_) hm
  subst e
  cases r3
  exact wpAny_truthy_bool ⟨H3, I3, q3⟩
def TruV (K : PySem.W.Frag) (x : V) (H : Hp) (k : Bool) : Prop :=
  match x with
  | .non => k = false
  | .bl b => k = b
  | .int i => k = (i != 0)
  | .str y => y.length ≤ sizeLine ∧ k = ((y.length : Int) != 0)
  | .byt y => y.size ≤ sizeLine ∧ k = ((y.size : Int) != 0)
  | .ref p => (∃ xs, SqL K H p xs ∧ k = !xs.isEmpty) ∨ (∃ xs, SqT K H p xs ∧ k = !xs.isEmpty) ∨ ∃ kvs, H p = some (.dK kvs) ∧ k = !kvs.isEmpty
  | _ => False
theorem isEmpty_kv {κ : Type} {kvs : List (κ × V)} {vs : List (κ × Value)} (r : KV kvs vs) : (!vs.isEmpty) = !kvs.isEmpty := by
  cases r <;> rfl
theorem isEmpty_of {xs : List V} {its : List Value} (r : Vals xs its) : (!its.toArray.isEmpty) = !xs.isEmpty := by
  cases r <;> simp
theorem line63 : (sizeLine : Nat) < 2 ^ 63 := by rw [sizeLine_eq]; decide
theorem tru_ok : TruR X (fun x H Q => ∃ k, TruV X.K x H k ∧ Q k H) := by
  intro pins s σ H x v Q I rx h
  obtain ⟨k, e, q⟩ := h
  have hl := line63
  have hs : sizeLine = 16777216 := sizeLine_eq
  cases x with
  | non =>
    cases rx
    have e' : k = false := e
    subst e'
    exact truthy_none ⟨H, I, q⟩
  | bl b =>
    cases rx
    have e' : k = b := e
    subst e'
    exact wpAny_truthy_bool ⟨H, I, q⟩
  | int i =>
    obtain ⟨t, rfl⟩ := rx
    have e' : k = (i != 0) := e
    subst e'
    exact PySem.P.truthy_int ⟨H, I, q⟩
  | str y =>
    obtain ⟨t, rfl⟩ := rx
    obtain ⟨hy, e'⟩ : y.length ≤ sizeLine ∧ k = ((y.length : Int) != 0) := e
    subst e'
    exact PySem.P.truthy_str (by omega) ⟨H, I.tok _, q⟩
  | byt y =>
    obtain ⟨t, rfl⟩ := rx
    obtain ⟨hy, e'⟩ : y.size ≤ sizeLine ∧ k = ((y.size : Int) != 0) := e
    subst e'
    exact PySem.W.truthy_bytes (by omega) ⟨H, I.tok _, q⟩
  | ref p =>
    cases rx
    have e' : (∃ xs, SqL X.K H p xs ∧ k = !xs.isEmpty) ∨ (∃ xs, SqT X.K H p xs ∧ k = !xs.isEmpty) ∨ ∃ kvs, H p = some (.dK kvs) ∧ k = !kvs.isEmpty := e
    rcases e' with ⟨xs, hx, e'⟩ | ⟨xs, hx, e'⟩ | ⟨kvs, hx, e'⟩
    · subst e'
      obtain ⟨its, r, pl, hz⟩ := I.list hx
      have hlen := r.length
      exact wpAny_truthy_list pl.isList (by simp only [List.size_toArray]; omega) ⟨H, I.tok _, by rw [isEmpty_of r]; exact q⟩
    · subst e'
      obtain ⟨its, r, pl, hz⟩ := I.tuple hx
      have hlen := r.length
      exact truthy_tuple pl (by simp only [List.size_toArray]; omega) ⟨H, I.tok _, by rw [isEmpty_of r]; exact q⟩
    · subst e'
      obtain ⟨hz, hS, vs, r, m⟩ : kvs.length ≤ sizeLine ∧ (p == sysModules) = false ∧ ∃ vs, KV kvs vs ∧ s.heap.DictOf (mixKind X.prog X.w) p vs := I.hok p _ hx
      have hlen : kvs.length = vs.length := Paired.length r
      exact wpAny_truthy_dict hS m (by omega) ⟨H, I.tok _, by rw [isEmpty_kv r]; exact q⟩
  | _ => exact (show False from e).elim
theorem pt_truth (ha : PE X a ta) (he : ∀ whole, isTrue a X.env whole = (do let v ← whole; standAt a.pos; holding [v] (truthy v))) :
    PT X a (fun σ H Q => ta σ H fun x H' => ∃ k, TruV X.K x H' k ∧ Q k H') := by
  intro pins s σ H Q I h
  exact isTrue_plain (thn (ha pins s σ H _ I h) fun v s1 ⟨x, H1, I1, r1, q1⟩ => tru_ok pins s1 σ H1 x v Q I1 r1 q1) (he _)
theorem op_add_str : OpR X (binaryOp .Add) (fun x y H Q => ∃ i j, x = .str i ∧ y = .str j ∧ i.length + j.length ≤ sizeLine ∧ Q (.str (i ++ j)) H) := by
  intro pins s σ H x y v u Q I rx ry h
  obtain ⟨i, j, rfl, rfl, hz, q⟩ := h
  obtain ⟨t, rfl⟩ := rx
  obtain ⟨t', rfl⟩ := ry
  exact add_str (fun t' tk => ⟨.str (i ++ j), H, I.tok _, ⟨_, rfl⟩, q⟩) hz
theorem vals1 {x : V} {us : List Value} (r : Vals [x] us) : ∃ u, us = [u] ∧ RelV x u := by
  cases r with
  | cons r1 r2 => cases r2; exact ⟨_, rfl, r1⟩
theorem vals2 {x y : V} {us : List Value} (r : Vals [x, y] us) : ∃ u w', us = [u, w'] ∧ RelV x u ∧ RelV y w' := by
  cases r with
  | cons r1 r2 =>
    cases r2 with
    | cons r3 r4 => cases r4; exact ⟨_, _, rfl, r1, r3⟩
theorem call_min2 (hc : X.calm = true) : CallR X (.builtin "min") (fun xs H Q => ∃ i j, xs = [.int i, .int j] ∧ Q (.int (if j < i then j else i)) H) := by
  intro pins s σ H xs us Q I r h
  obtain ⟨i, j, rfl, q⟩ := h
  obtain ⟨u, w', rfl, ⟨t, rfl⟩, ⟨t', rfl⟩⟩ := vals2 r
  refine min_two_ints (I.ok.hd hc) fun h' tk k => ⟨_, H, I.kept k, ?_, q⟩
  by_cases hj : j < i
  · rw [if_pos hj, if_pos hj]; exact ⟨_, rfl⟩
  · rw [if_neg hj, if_neg hj]; exact ⟨_, rfl⟩
theorem call_int1 : CallR X (.type "int") (fun xs H Q => (∃ i, xs = [.int i] ∧ Q (.int i) H) ∨ ∃ k, xs = [.bl k] ∧ Q (.int (if k then 1 else 0)) H) := by
  intro pins s σ H xs us Q I r h
  rcases h with ⟨i, rfl, q⟩ | ⟨k, rfl, q⟩
  · obtain ⟨u, rfl, t, rfl⟩ := vals1 r
    exact call_int_int ⟨.int i, H, I, ⟨_, rfl⟩, q⟩
  · obtain ⟨u, rfl, r1⟩ := vals1 r
    cases r1
    exact call_int_bool ⟨.int (if k then 1 else 0), H, I.tok _, ⟨_, rfl⟩, q⟩
end
end L2
namespace L2
open PySem PySem.Spec PyProof.Rows
structure ObjM (h : Heap) (x dx C : Addr) (mA : Str → Option Value) : Prop where
  obj : h.get? x = some (PySem.W.instObj C dx)
  ns : h.Ns1 dx mA
  ne : dx ≠ x
section
variable {prog : Program} {w : World} {A : Around} {E : Value → Shared → Prop} {s : Shared} {K : PySem.W.Frag} {x dx C f : Addr} {mA : Str → Option Value} {name : Str} {v : Value}
end
theorem RelO.some_of {v : V} {o : Option Value} (r : RelO (some v) o) : ∃ u, o = some u ∧ RelV v u := by
  cases o with
  | none => exact (show False from r).elim
  | some u => exact ⟨u, rfl, r⟩
section
variable {P : Program} {w : World} {H H' : Hp} {h h' : Heap} {a C dx : Addr} {fs fs' : List (Str × V)}
end
structure Cls (K : PySem.W.Frag) (C : Addr) : Prop where
  pg : PySem.W.plainGet K C Str.empty = true
  hd : PySem.W.hasDictIn K C = true
  po : PySem.W.plainOver K C = true
  sa : PySem.W.findIn K (.ref C) "__setattr__" = some (some (.builtin "object.__setattr__"))
theorem Cls.get {K : PySem.W.Frag} {C : Addr} (c : Cls K C) (f : Str) : PySem.W.plainGet K C f = true := c.pg
structure Con (K : PySem.W.Frag) (C : Addr) (f : Str) (v : V) (u : Value) : Prop where
  at_ : PySem.W.findIn K (.ref C) f = some (some u)
  rel : RelV v u
  get : PySem.W.specialIn K u "__get__" = some none
  cp : PySem.W.copiedNames.contains f = false
structure Meth (K : PySem.W.Frag) (C : Addr) (m : Str) (f : Addr) : Prop where
  at_ : PySem.W.findIn K (.ref C) m = some (some (.ref f))
  fn : PySem.W.isFn K (.ref f) = true
  kp : PySem.W.keepIn K (.ref f) = true
section
variable {X : Cx} {pins : List (Addr × Obj)} {σ : St} {H : Hp} {s : Shared} {a C dx : Addr} {fs : List (Str × V)} {f : Str} {v : V} {A : Around} {E : Value → Shared → Prop}
theorem Inv.made (I : Inv X pins σ H s) : Inv X pins σ (upd (upd H s.heap.objs.size (.own (s.heap.objs.size + 1))) (s.heap.objs.size + 1) (.ins C s.heap.objs.size []))
    { s with heap := (s.heap.push PySem.W.emptyDict).push (PySem.W.instObj C s.heap.objs.size) } := by
  have e1 : (s.heap.push PySem.W.emptyDict).get? s.heap.objs.size = some PySem.W.emptyDict := Heap.get?_push_size s.heap rfl
  have e2 : ((s.heap.push PySem.W.emptyDict).push (PySem.W.instObj C s.heap.objs.size)).get? (s.heap.objs.size + 1) = some (PySem.W.instObj C s.heap.objs.size) := by
    have := Heap.get?_push_size (s.heap.push PySem.W.emptyDict) (o := PySem.W.instObj C s.heap.objs.size) rfl
    rwa [Heap.size_push] at this
  have e3 : (s.heap.push PySem.W.emptyDict).Ns s.heap.objs.size (fun _ => none) := ⟨PySem.W.emptyDict, #[], _, e1, rfl, (fun e he => absurd he (by simp)), fun _ => rfl⟩
  have I1 := I.laid (a := s.heap.objs.size) (o := .own (s.heap.objs.size + 1)) (h' := s.heap.push PySem.W.emptyDict) (t' := s.toks) (fun b u q => Heap.get?_push_of_some _ q) (Nat.le_refl _) ⟨_, e1⟩
  refine I1.laid (a := s.heap.objs.size + 1) (o := .ins C s.heap.objs.size []) (t' := s.toks) (fun b u q => Heap.get?_push_of_some _ q) (Nat.le_of_eq (Heap.size_push _ _)) ?_
  have ne : s.heap.objs.size ≠ s.heap.objs.size + 1 := Nat.ne_of_lt (Nat.lt_succ_self _)
  refine ⟨by rw [upd_ne ne, upd_same], Nat.zero_le _, ne, e2, fun _ => none, (Heap.Ns1.of_empty e3).at fun o q => Heap.get?_push_of_some _ q, fun _ => True.intro, fun y hy => absurd rfl hy⟩
end
section
variable {X : Cx} {o e value : Expr} {f : Str} {pos pos' tpos : Pos} {ta tv : TE}
end
section
variable {X : Cx} {pins : List (Addr × Obj)} {σ : St} {H : Hp} {s : Shared} {A : Around} {E : Value → Shared → Prop} {Q : Value → Shared → Prop} {c : Value} {b : Bool}
inductive TyOf (K : PySem.W.Frag) (H : Hp) : V → Value → Prop where
  | non : TyOf K H .non (.type "NoneType")
  | bl (x : Bool) : TyOf K H (.bl x) (.type "bool")
  | int (i : Int) : TyOf K H (.int i) (.type "int")
  | str (x : Str) : TyOf K H (.str x) (.type "str")
  | flt (x : UInt64) : TyOf K H (.flt x) (.type "float")
  | lst {a : Addr} {xs : List V} (e : H a = some (.lst xs)) : TyOf K H (.ref a) (.type "list")
  | frz {a : Addr} {o : Obj} {xs : List V} (e : H a = some (.frz o (.lst xs))) : TyOf K H (.ref a) (.type "list")
  | tup {a : Addr} {xs : List V} (e : H a = some (.tup xs)) : TyOf K H (.ref a) (.type "tuple")
  | dK {a : Addr} {kvs : List (Key × V)} (e : H a = some (.dK kvs)) : TyOf K H (.ref a) (.type "dict")
  | dT {a : Addr} {kvs : List (List Key × V)} (e : H a = some (.dT kvs)) : TyOf K H (.ref a) (.type "dict")
  | ins {a C dx : Addr} {fs : List (Str × V)} (e : H a = some (.ins C dx fs)) (cl : Cls K C) (ha : PySem.W.findIn K (.ref C) "__class__" = some (some (.builtin "object.__class__")))
      (hn : PySem.W.specialIn K (.builtin "object.__class__") "__get__" = some (some (.builtin "getset_descriptor.__get__"))) (htk : PySem.W.takesIn K (.builtin "object.__class__") = some true)
      (hm : PySem.W.mroIn K C (.type "object") = some true) : TyOf K H (.ref a) (.ref C)
end
end L2
namespace L2
open PySem PySem.Spec PyProof.Rows
structure Room (k : Nat) (A : Around) : Prop where
  hd : A.handled = none
  dp : A.depth + 3 * k + 5 < recursionLimit
  un : A.units + 16 * k + 200 < cLine
theorem Room.mono {j k : Nat} {A : Around} (r : Room k A) (h : j ≤ k) : Room j A := ⟨r.hd, by have := r.dp; omega, by have := r.un; omega⟩
theorem Room.deeper {k : Nat} {A : Around} (r : Room (k + 1) A) (env : Env) : Room k (A.deeper env) :=
  ⟨r.hd, by have := r.dp; show A.depth + 1 + 3 * k + 5 < _; omega, by have := r.un; show A.units + 3 + 16 * k + 200 < _; omega⟩
theorem Room.depth {k : Nat} {A : Around} (r : Room k A) : A.depth < recursionLimit := by have := r.dp; omega
theorem Room.units {k : Nat} {A : Around} (r : Room k A) : A.units + 64 < cLine := by have := r.un; omega
def tNil : TA := fun _ H Q => Q [] H
def tCons (ta : TE) (tr : TA) : TA := fun σ H Q => ta σ H fun x H1 => tr σ H1 fun xs H2 => Q (x :: xs) H2
section
variable {X : Cx} {e : Expr} {es : List Expr} {te : TE} {t : TA} {pos : Pos}
theorem pa_nil : PA X [] tNil := fun _ _ _ _ H Q I h => Calls.spliced_nil ⟨[], H, I, .nil, h⟩
theorem pa_cons (ha : PE X e te) (hr : PA X es t) (hs : starEach (e :: es) X.env = (false, eval e X.env) :: starEach es X.env := by rfl) : PA X (e :: es) (tCons te t) := by
  intro pos pins s σ H Q I h
  rw [hs]
  show wpAny _ _ (spliced ((false, eval e X.env) :: backTo pos (starEach es X.env))) _ _ s
  refine Calls.spliced_cons (thn (ha pins s σ H _ I h) fun u s1 ⟨x, H1, I1, r1, q1⟩ => ?_)
  exact thn (hr pos pins s1 σ H1 _ I1 q1) fun us s2 ⟨xs, H2, I2, r2, q2⟩ => ⟨x :: xs, H2, I2, .cons r1 r2, q2⟩
def tTup (t : TA) : TE := fun σ H Q => t σ H fun xs H1 => xs.length ≤ sizeLine ∧ ∀ p, H1 p = none → Q (.ref p) (upd H1 p (.tup xs))
def tLst (t : TA) : TE := fun σ H Q => t σ H fun xs H1 => xs.length ≤ sizeLine ∧ ∀ p, H1 p = none → Q (.ref p) (upd H1 p (.lst xs))
theorem pe_tup {x1} (h : PA X es t) : PE X (.Tuple es x1 pos) (tTup t) := by
  intro pins s σ H Q I hq
  refine wpAny_Tuple_spliced (thn (h pos pins s σ H _ I hq) fun us s1 ⟨xs, H1, I1, r, z, q⟩ => ⟨by rw [← r.length]; exact z, ?_⟩)
  have hf : H1 s1.heap.objs.size = none := I1.hok.fresh (Nat.le_refl _)
  refine ⟨.ref s1.heap.objs.size, upd H1 s1.heap.objs.size (.tup xs), I1.laid (t' := s1.toks) (fun b u e => Heap.get?_push_of_some _ e) (Nat.le_refl _) ?_, rfl, q _ hf⟩
  exact ⟨z, us, r, ⟨_, Heap.get?_push_size _ rfl, rfl, _, rfl⟩⟩
theorem pe_lst (h : PA X es t) : PE X (.List es pos) (tLst t) := by
  intro pins s σ H Q I hq
  refine wpAny_List_spliced (thn (h pos pins s σ H _ I hq) fun us s1 ⟨xs, H1, I1, r, z, q⟩ => ⟨by rw [← r.length]; exact z, ?_⟩)
  have hf : H1 s1.heap.objs.size = none := I1.hok.fresh (Nat.le_refl _)
  refine ⟨.ref s1.heap.objs.size, upd H1 s1.heap.objs.size (.lst xs), I1.laid (t' := s1.toks) (fun b u e => Heap.get?_push_of_some _ e) (Nat.le_refl _) ?_, rfl, q _ hf⟩
  exact ⟨z, us, 0, r, Heap.get?_push_size _ rfl⟩
end
abbrev Sp := List V → Hp → VK → XK → Prop
abbrev CXT := List Env → Hp → Shared → XK → Value → Shared → Prop
structure Env0 (P : Program) (w : World) (K : PySem.W.Frag) (mg : Str → Option Value) (base : Heap) (A : Around) (outer : List Env) (s : Shared) (H : Hp) : Prop where
  frames : A.frames = some outer
  mod : Mod K mg base
  bs : ∀ b o, base.get? b = some o → s.heap.get? b = some o ∧ H b = none
  bsz : base.objs.size ≤ s.heap.objs.size
  funs : s.heap.FunFrames base outer
  frf : ∀ b ∈ frs outer, H b = none
  hok : HOk P w H s.heap
  bare : AllBare s.gens
def CE (outer : List Env) (P : Program) (w : World) (H : Hp) (s : Shared) (Q : VK) (u : Value) (s' : Shared) : Prop :=
  ∃ v H', s'.os = s.os ∧ AllBare s'.gens ∧ Un (frs outer) [] H H' s.heap s'.heap ∧ HOk P w H' s'.heap ∧ RelV v u ∧ Q v H'
def CR (CX : CXT) (outer : List Env) (P : Program) (w : World) (H : Hp) (s : Shared) (Q : VK) (E : XK) (r : Result) (s' : Shared) : Prop :=
  match r with
  | .ok (.ret u) => CE outer P w H s Q u s'
  | .ok _ => False
  | .error e => CX outer H s E e s'
structure FnOk (P : Program) (w : World) (K : PySem.W.Frag) (mg : Str → Option Value) (base : Heap) (CX : CXT) (k : Nat) (f : Addr) (fd : FuncData) (ps : List Str) (sp : Sp) : Prop where
  len : ∀ vs H Q E, sp vs H Q E → vs.length = ps.length
  run : ∀ (A : Around) (outer : List Env) (s : Shared) (H : Hp) (args : Args) (us : List Value) (vs : List V) (Q : VK) (E : XK), Room k A → Env0 P w K mg base A outer s H → BindsTo s fd args (ps.zip us) → Vals vs us → sp vs H Q E →
    codeAny (model P w) A (.call (.ref f) args) (CR CX outer P w H s Q E) s
theorem FnOk.mono {P : Program} {w : World} {K : PySem.W.Frag} {mg : Str → Option Value} {base : Heap} {CX : CXT} {j k : Nat} {f : Addr} {fd : FuncData} {ps : List Str} {sp : Sp} (F : FnOk P w K mg base CX j f fd ps sp) (h : j ≤ k) :
    FnOk P w K mg base CX k f fd ps sp := ⟨F.len, fun A outer s H args us vs Q E hr => F.run A outer s H args us vs Q E (hr.mono h)⟩
section
variable {X : Cx} {pins : List (Addr × Obj)} {σ : St} {H : Hp} {s s' : Shared}
theorem Inv.env0 (I : Inv X pins σ H s) : Env0 X.prog X.w X.K X.mg X.base X.A X.stack s H :=
  ⟨I.ok.frames, I.ok.mod, I.bs, Nat.le_trans I.ok.bsz I.sz, I.stack, I.stkFree, I.hok, I.bare⟩
theorem Inv.after {Q : VK} {u : Value} (I : Inv X pins σ H s) (h : CE X.stack X.prog X.w H s Q u s') : EP X pins σ Q u s' := by
  obtain ⟨v, H', os, bare, un, hok, r, q⟩ := h
  obtain ⟨hh, g, d, t, os'⟩ := s'
  obtain rfl : os' = s.os := os
  exact ⟨v, H', I.call (h' := hh) (g' := g) (d' := d) (t' := t) (ch := []) un hok bare (fun b z => absurd z (by simp)), r, q⟩
end
def tCall (sp : Sp) (dvs : List V) (E : XK) (t : TA) : TE := fun σ H Q => t σ H fun vs H1 => sp (vs ++ dvs) H1 Q E
def Binds (K : PySem.W.Frag) (fd : FuncData) (ps : List Str) (ds : List Value) : Prop :=
  ∀ (s : Shared) (us : List Value), K.In s.heap → (us ++ ds).length = ps.length → BindsTo s fd ⟨us, []⟩ (ps.zip (us ++ ds))
theorem Binds.all {K : PySem.W.Frag} {fd : FuncData} {ps : List Str} (h : ∀ us : List Value, us.length = ps.length → bindArgs fd ⟨us, []⟩ = pure (ps.zip us)) : Binds K fd ps [] := fun s us _ hl => by
  rw [List.append_nil] at hl ⊢
  exact .of_eq (h us hl)
def Passes (CX : CXT) (X : Cx) (E : XK) : Prop := ∀ (pins : List (Addr × Obj)) (σ : St) (H : Hp) (s : Shared) (e : Value) (s' : Shared), Inv X pins σ H s → CX X.stack H s E e s' → X.xe e s'
section
variable {X : Cx} {CX : CXT} {k : Nat} {f C : Addr} {fd : FuncData} {ps : List Str} {sp : Sp} {dvs : List V} {ds : List Value} {E : XK} {x m : Str} {p pos apos : Pos} {e o : Expr} {es : List Expr} {ta : TE} {t : TA}
theorem run_fn {pins : List (Addr × Obj)} {σ : St} {H : Hp} {s : Shared} {Q : VK} {us : List Value} {vs : List V} (F : FnOk X.prog X.w X.K X.mg X.base CX k f fd ps sp) (hr : Room k X.A) (hb : Binds X.K fd ps ds) (hd : Vals dvs ds) (hx : Passes CX X E)
    (I : Inv X pins σ H s) (r : Vals vs us) (h : sp (vs ++ dvs) H Q E) : wpAny (model X.prog X.w) X.A (call (.ref f) us) (EP X pins σ Q) X.xe s := by
  have r2 : Vals (vs ++ dvs) (us ++ ds) := r.append hd
  have hl : (us ++ ds).length = ps.length := by rw [← r2.length]; exact F.len _ _ _ _ h
  refine wpAny_call (codeAny_mono (F.run X.A X.stack s H ⟨us, []⟩ (us ++ ds) (vs ++ dvs) Q E hr I.env0 (hb s us I.kIn hl) r2 h) fun r s' hq => ?_)
  cases r with
  | error e => exact hx pins σ H s e s' I hq
  | ok fl =>
    cases fl with
    | ret u => exact I.after hq
    | next => exact False.elim hq
    | brk => exact False.elim hq
    | cont => exact False.elim hq
theorem pe_call (F : FnOk X.prog X.w X.K X.mg X.base CX k f fd ps sp) (hr : Room k X.A) (hg : Gl X x) (hm : X.mg x = some (.ref f)) (hk : PySem.W.keepIn X.K (.ref f) = true) (hb : Binds X.K fd ps ds) (hd : Vals dvs ds) (hx : Passes CX X E)
    (ha : PA X (e :: es) t) (hdb : (x == ("__debug__" : Str)) = false := by decide) (he : starEach (e :: es) X.env = (false, eval e X.env) :: starEach es X.env := by rfl) (hpl : (backTo pos (starEach es X.env)).any (·.1) = false := by rfl) :
    PE X (.Call (.Name x p) (e :: es) [] pos) (tCall sp dvs E t) := by
  intro pins s σ H Q I h
  refine wpAny_Call_Name_kw (ld_glob I hg hm ?_ hdb)
  refine PySem.W.callWith_K (h₀ := X.base) I.ok.mod.kin hk (thn (ha pos pins s σ H _ I h) fun us s1 ⟨vs, H1, I1, r, q⟩ => ⟨I1.kIn, ?_⟩) he hpl
  exact run_fn F hr hb hd hx I1 r q
structure Mk (K : PySem.W.Frag) (C f : Addr) : Prop where
  makes : PySem.W.makesIn K C = true
  init : PySem.W.findIn K (.ref C) "__init__" = some (some (.ref f))
  fn : PySem.W.isFn K (.ref f) = true
  kp : PySem.W.keepIn K (.ref C) = true
end
section
variable {X : Cx} {CX : CXT} {k : Nat} {f C : Addr} {fd : FuncData} {ps ks : List Str} {sp : Sp} {E : XK} {x m : Str} {p pos apos kpos : Pos} {e o : Expr} {es : List Expr} {kws : List Keyword} {te ta : TE} {t tk : TA} {nm : Option Str}
structure KBinds (K : PySem.W.Frag) (fd : FuncData) (ps ks : List Str) (g : List Value → List Value → List Value) (gV : List V → List V → List V) : Prop where
  to : ∀ (s : Shared) (us ws : List Value), K.In s.heap → (g us ws).length = ps.length → BindsTo s fd ⟨us, ks.zip ws⟩ (ps.zip (g us ws))
  rel : ∀ {vs : List V} {us : List Value} {zs : List V} {ws : List Value}, Vals vs us → Vals zs ws → Vals (gV vs zs) (g us ws)
variable {g : List Value → List Value → List Value} {gV : List V → List V → List V}
end
structure FnScope (N P : List Str) (sc : Scope) : Prop where
  kind : sc.kind = .function
  co : sc.isCoroutine = false
  gen : sc.isGenerator = false
  nd : N.Nodup
  pre : N.take P.length = P
  par : ∀ x ∈ P, sc.names.lookup x = some .local ∨ sc.names.lookup x = some .cell
  nofree : ∀ y ∈ sc.names, y.2 ≠ .free
theorem bindL_out {kindOf : Str → Option NameKind} {x : Str} : ∀ {binds : List (Str × Value)} {m : Str → Option Value}, (∀ v, (x, v) ∉ binds) → bindL kindOf binds m x = m x
  | [], _, _ => rfl
  | (n, v) :: r, m, h => by
    unfold bindL
    rw [bindL_out fun w hw => h w (List.mem_cons_of_mem _ hw)]
    split
    · have : x ≠ n := by rintro rfl; exact h v List.mem_cons_self
      simp [this]
    · rfl
theorem bindC_out {kindOf : Str → Option NameKind} {x : Str} : ∀ {binds : List (Str × Value)} {m : Str → Option Value}, (∀ v, (x, v) ∉ binds) → bindC kindOf binds m x = m x
  | [], _, _ => rfl
  | (n, v) :: r, m, h => by
    unfold bindC
    rw [bindC_out fun w hw => h w (List.mem_cons_of_mem _ hw)]
    split
    · rfl
    · have : x ≠ n := by rintro rfl; exact h v List.mem_cons_self
      simp [this]
theorem bindL_get {kindOf : Str → Option NameKind} {x : Str} {v : Value} : ∀ {P : List Str} {vs : List Value} {i : Nat} {m : Str → Option Value}, P.Nodup → P[i]? = some x → vs[i]? = some v → kindOf x = some .local →
    bindL kindOf (P.zip vs) m x = some v
  | [], _, _, _, _, h, _, _ => by simp at h
  | _ :: _, [], _, _, _, _, h, _ => by simp at h
  | p :: P, w :: vs, 0, m, nd, h1, h2, hk => by
    simp at h1 h2; subst h1; subst h2
    show bindL kindOf ((p, w) :: P.zip vs) m p = _
    unfold bindL
    rw [bindL_out fun v hv => (List.nodup_cons.mp nd).1 (List.of_mem_zip hv).1, if_pos hk]
    simp
  | p :: P, w :: vs, i + 1, m, nd, h1, h2, hk => by
    show bindL kindOf ((p, w) :: P.zip vs) m x = _
    unfold bindL
    exact bindL_get (i := i) (List.nodup_cons.mp nd).2 (by simpa using h1) (by simpa using h2) hk
theorem bindC_get {kindOf : Str → Option NameKind} {x : Str} {v : Value} : ∀ {P : List Str} {vs : List Value} {i : Nat} {m : Str → Option Value}, P.Nodup → P[i]? = some x → vs[i]? = some v → kindOf x ≠ some .local →
    bindC kindOf (P.zip vs) m x = some v
  | [], _, _, _, _, h, _, _ => by simp at h
  | _ :: _, [], _, _, _, _, h, _ => by simp at h
  | p :: P, w :: vs, 0, m, nd, h1, h2, hk => by
    simp at h1 h2; subst h1; subst h2
    show bindC kindOf ((p, w) :: P.zip vs) m p = _
    unfold bindC
    rw [bindC_out fun v hv => (List.nodup_cons.mp nd).1 (List.of_mem_zip hv).1, if_neg hk]
    simp
  | p :: P, w :: vs, i + 1, m, nd, h1, h2, hk => by
    show bindC kindOf ((p, w) :: P.zip vs) m x = _
    unfold bindC
    exact bindC_get (i := i) (List.nodup_cons.mp nd).2 (by simpa using h1) (by simpa using h2) hk
def start (N : List Str) (vs : List V) : St := vs.map some ++ List.replicate (N.length - vs.length) none
def cxOf (CX : CXT) (P : Program) (w : World) (K : PySem.W.Frag) (mg : Str → Option Value) (base : Heap) (N : List Str) (qual : Str) (scope : Scope) (f : Addr) (cd : Value) (A : Around) (outer : List Env) (s : Shared) (H : Hp) (E : XK) : Cx where
  prog := P
  w := w
  K := K
  mg := mg
  base := base
  A := A.deeper (envOfC qual scope s.heap.objs.size f cd)
  N := N
  s₀ := s
  H₀ := H
  env := envOfC qual scope s.heap.objs.size f cd
  outer := outer
  stack := envOfC qual scope s.heap.objs.size f cd :: outer
  ex := []
  calm := true
  fn := fun _ => true
  pn := []
  xe := fun e s' => wpAny (model P w) (A.deeper (envOfC qual scope s.heap.objs.size f cd)) (leaving (envOfC qual scope s.heap.objs.size f cd) e) (fun _ s'' => CX outer H s E e s'') (fun e' s'' => CX outer H s E e' s'') s'
theorem cell_has {sc : Scope} {n : Nat} {x : Str} (h : sc.names.lookup x = some .cell) : ∃ c, (cellsFrom n sc.names []).lookup x = some c := by
  have q := PySem.W.cellsFrom_some sc.names n [] (.inl h)
  exact Option.isSome_iff_exists.mp q
theorem inv_start {CX : CXT} {P : Program} {w : World} {K : PySem.W.Frag} {mg : Str → Option Value} {base : Heap} {N ps : List Str} {qual : Str} {scope : Scope} {f : Addr} {cd : Value} {A : Around} {outer : List Env} {s s1 : Shared} {H : Hp} {E : XK} {us : List Value} {vs : List V}
    (S : FnScope N ps scope) (hd : A.handled = none) (e0 : Env0 P w K mg base A outer s H) (hl : vs.length = ps.length) (r : Vals vs us)
    (x : InCallC s s.heap.objs.size (bindL (envOfC qual scope s.heap.objs.size f cd).kindOf (ps.zip us) fun _ => none) (cellsFrom (s.heap.objs.size + 1) scope.names []) (bindC (envOfC qual scope s.heap.objs.size f cd).kindOf (ps.zip us) fun _ => none) s1) :
    Inv (cxOf CX P w K mg base N qual scope f cd A outer s H E) [] (start N vs) H s1 := by
  have hpl : ps.length ≤ N.length := by have := congrArg List.length S.pre; rw [List.length_take] at this; omega
  obtain ⟨h1, tk, rfl, hk⟩ := x.done
  have noA : ∀ b : Addr, b ∉ (cxOf CX P w K mg base N qual scope f cd A outer s H E).ex := fun b z => absurd (show b ∈ ([] : List Addr) from z) (by simp)
  refine ⟨⟨e0.mod, S.kind, rfl, rfl, Nat.le_refl _, fun y z c h1 h2 => ?_, fun y hy => ?_, fun y c _ h => ?_, fun _ => hd, Around.frames_deeper e0.frames, .inr ⟨rfl, rfl⟩, fun b z => absurd z (noA b), e0.bs, e0.bsz, fun b _ _ => noA b, fun b z => absurd z (noA b), e0.funs, e0.frf⟩,
    rfl, e0.bare, Un.kept hk, ⟨_, x.toInCall.ns, fun i y v h1 h2 h3 => ?_⟩, fun y c h => ⟨_, x.cell y c h⟩, e0.hok.fresh (Nat.le_refl _), fun y c h => ?_, fun p hp => absurd (show p ∈ ([] : List (Addr × Obj)) from hp) (by simp), e0.hok.kept hk, ?_⟩
  · exact name_of_addr x.apart (PySem.mem_of_lookup h1) (PySem.mem_of_lookup h2)
  · have hy : scope.names.lookup y = some .cell ∨ scope.names.lookup y = some .free := hy
    rcases hy with hy | hy
    · exact cell_has hy
    · exact absurd rfl (S.nofree _ (PySem.mem_of_lookup hy))
  · exact Nat.le_of_lt (x.above y c (PySem.mem_of_lookup h))
  · have hi : i < vs.length := by
      unfold start at h2
      by_cases hi : i < vs.length
      · exact hi
      · rw [List.getElem?_append_right (by simpa using hi)] at h2
        rw [List.getElem?_replicate] at h2
        split at h2 <;> cases h2
    have ha : vs[i]? = some v := by
      unfold start at h2
      rw [List.getElem?_append_left (by simpa using hi), List.getElem?_map] at h2
      cases e : vs[i]? with
      | none => rw [e] at h2; cases h2
      | some a => rw [e] at h2; cases h2; rfl
    obtain ⟨u, hu, rv⟩ := r.get ha
    have hp : ps[i]? = some y := by
      rw [← S.pre, List.getElem?_take_of_lt (by omega)]; exact h1
    have ndP : ps.Nodup := by rw [← S.pre]; exact S.nd.sublist (List.take_sublist _ _)
    refine ⟨u, rv, ?_⟩
    rcases S.par y (List.mem_of_getElem? hp) with k | k
    · exact .inl ⟨k, bindL_get ndP hp hu k⟩
    · obtain ⟨c, e⟩ := cell_has (n := s.heap.objs.size + 1) k
      refine .inr ⟨.inl k, c, e, ?_⟩
      have q := x.cell y c e
      rw [bindC_get ndP hp hu (by show scope.names.lookup y ≠ _; rw [k]; decide)] at q
      exact q
  · exact e0.hok.fresh (Nat.le_of_lt (x.above y c (PySem.mem_of_lookup h)))
  · unfold start
    show _ = N.length
    rw [List.length_append, List.length_map, List.length_replicate]
    omega
theorem fn_of {CX : CXT} {P : Program} {w : World} {K : PySem.W.Frag} {mg : Str → Option Value} {base : Heap} {k : Nat} {f : Addr} {name qual : Str} {params : Arguments} {body : List Stmt} {scope : Scope} {dV kV doc pm cdv ct oc : Value} {an od : Option Addr}
    {osl : Array (Option Value)} {N ps : List Str} {sp : Sp} (lk : K.lookup f = some ⟨oc, od, .func (PySem.W.fnOf name qual params body scope dV kV doc pm an cdv ct), osl⟩) (hcd : PySem.W.codeIn K cdv qual = true) (S : FnScope N ps scope)
    (len : ∀ vs H Q E, sp vs H Q E → vs.length = ps.length)
    (hbody : ∀ (A : Around) (outer : List Env) (s : Shared) (H : Hp) (vs : List V) (Q : VK) (E : XK), Room k (A.deeper (envOfC qual scope s.heap.objs.size f cdv)) → sp vs H Q E →
      ∃ t, PSs (cxOf CX P w K mg base N qual scope f cdv A outer s H E) body t ∧ t { nx := fun _ H' => Q .non H', rt := Q } (start N vs) H) :
    FnOk P w K mg base CX (k + 1) f (PySem.W.fnOf name qual params body scope dV kV doc pm an cdv ct) ps sp := by
  refine ⟨len, fun A outer s H args us vs Q E hr e0 hb r hsp => ?_⟩
  have hl := len _ _ _ _ hsp
  have KX : K.In s.heap := e0.mod.kin.keeps fun b o e => (e0.bs b o e).1
  have lim : s.heap.NoLimit := e0.mod.nolimit.keeps fun b o e => (e0.bs b o e).1
  have hkind : ∀ y ∈ ps.zip us, scope.names.lookup y.1 = some .local ∨ (scope.names.lookup y.1 = some .cell ∧ ((cellsFrom (s.heap.objs.size + 1) scope.names []).lookup y.1).isSome = true) := fun ⟨n, v⟩ hy => by
    rcases S.par n (List.of_mem_zip hy).1 with q | q
    · exact .inl q
    · exact .inr ⟨q, PySem.W.cellsFrom_some _ _ _ (.inl q)⟩
  refine codeAny_call_function hr.depth (KX _ _ lk) rfl S.co S.gen rfl (PySem.W.codeRec_of KX hcd) (hb _ _ _ _ ?_)
  refine wpAny_newFunctionEnv_cells S.kind hkind fun env he s1 x => ?_
  subst he
  refine ⟨lim.keeps x.toInCall.keep, codeAny_func ?_⟩
  obtain ⟨t, ht, hq⟩ := hbody A outer s H vs Q E (hr.deeper _) hsp
  have I : Inv (cxOf CX P w K mg base N qual scope f cdv A outer s H E) [] (start N vs) H s1 := inv_start S hr.hd e0 hl r x
  refine wpAny_mono (ht [] s1 (start N vs) H _ I hq) (fun fl s' hs => ?_) fun e s' hs => hs
  have fin : ∀ {σ' : St} {H' : Hp} {v : V} {u : Value}, Inv (cxOf CX P w K mg base N qual scope f cdv A outer s H E) [] σ' H' s' → RelV v u → Q v H' → CE outer P w H s Q u s' :=
    fun {σ' H' v u} J rv q => ⟨v, H', J.os, J.bare, J.base, J.hok, rv, q⟩
  cases fl with
  | ret u =>
    obtain ⟨v, σ', H', J, rv, q⟩ := hs
    exact fin J rv q
  | next =>
    obtain ⟨σ', H', J, q⟩ := hs
    exact fin (v := V.non) (u := Value.none) J rfl q
  | brk =>
    obtain ⟨_, _, _, q⟩ := hs
    exact False.elim q
  | cont =>
    obtain ⟨_, _, _, q⟩ := hs
    exact False.elim q
end L2
namespace L2
open PySem PySem.Spec PyProof.Rows
section
variable {X : Cx} {x : Str} {p pos : Pos} {e : Expr} {es : List Expr} {t : TA} {id T : String} {r : List V → Hp → VK → Prop}
def tCB (r : List V → Hp → VK → Prop) (t : TA) : TE := fun σ H Q => t σ H fun vs H1 => r vs H1 Q
theorem pe_callB (hc : CallR X (.builtin id) r) (hg : Gl X x) (hm : X.mg x = none) (hv : bootBuiltins x = some (.builtin id)) (ha : PA X (e :: es) t) (hn : x ≠ "__name__" := by decide) (hdb : (x == ("__debug__" : Str)) = false := by decide)
    (he : starEach (e :: es) X.env = (false, eval e X.env) :: starEach es X.env := by rfl) (hpl : (backTo pos (starEach es X.env)).any (·.1) = false := by rfl) : PE X (.Call (.Name x p) (e :: es) [] pos) (tCB r t) := by
  intro pins s σ H Q I h
  refine wpAny_Call_Name_kw (ld_blt I hg hm hv ?_ hn hdb)
  exact PyProof.Rows.callWith_builtin1 (thn (ha pos pins s σ H _ I h) fun us s1 ⟨vs, H1, I1, r1, q1⟩ => hc pins s1 σ H1 vs us Q I1 r1 q1) he hpl
theorem pe_callTy (hc : CallR X (.type T) r) (hg : Gl X x) (hm : X.mg x = none) (hv : bootBuiltins x = some (.type T)) (ha : PA X (e :: es) t) (hn : x ≠ "__name__" := by decide) (hdb : (x == ("__debug__" : Str)) = false := by decide)
    (he : starEach (e :: es) X.env = (false, eval e X.env) :: starEach es X.env := by rfl) (hpl : (backTo pos (starEach es X.env)).any (·.1) = false := by rfl) : PE X (.Call (.Name x p) (e :: es) [] pos) (tCB r t) := by
  intro pins s σ H Q I h
  refine wpAny_Call_Name_kw (ld_blt I hg hm hv ?_ hn hdb)
  exact PyProof.Rows.callWith_type1 (thn (ha pos pins s σ H _ I h) fun us s1 ⟨vs, H1, I1, r1, q1⟩ => hc pins s1 σ H1 vs us Q I1 r1 q1) he hpl
end
end L2
namespace L2
open PySem PySem.Spec PyProof.Rows
section
variable {κ : Type} [DecidableEq κ]
def valV (kvs : List (κ × V)) (k : κ) : Option V := (kvs.find? fun kv => decide (kv.1 = k)).map (·.2)
def putK (kvs : List (κ × V)) (k : κ) (v : V) : List (κ × V) :=
  if (kvs.any fun kv => decide (kv.1 = k)) = true then kvs.map (fun kv => if kv.1 = k then (kv.1, v) else kv) else kvs ++ [(k, v)]
theorem valV_pos {p : κ × V} {r : List (κ × V)} {k : κ} (e : p.1 = k) : valV (p :: r) k = some p.2 := by simp [valV, List.find?_cons, e]
theorem valV_neg {p : κ × V} {r : List (κ × V)} {k : κ} (e : ¬ p.1 = k) : valV (p :: r) k = valV r k := by simp [valV, List.find?_cons, e]
theorem valV_any (k : κ) : ∀ kvs : List (κ × V), (kvs.any fun kv => decide (kv.1 = k)) = (valV kvs k).isSome
  | [] => rfl
  | p :: r => by
    rw [List.any_cons]
    by_cases e : p.1 = k
    · simp only [valV_pos e, decide_eq_true e, Bool.true_or, Option.isSome_some]
    · rw [valV_neg e, decide_eq_false e, Bool.false_or]; exact valV_any k r
theorem length_putK (kvs : List (κ × V)) (k : κ) (v : V) : (putK kvs k v).length ≤ kvs.length + 1 := by
  unfold putK
  split
  · rw [List.length_map]; omega
  · rw [List.length_append, List.length_cons, List.length_nil]; omega
theorem RelO.isSome_eq {o : Option V} {u : Option Value} (r : RelO o u) : o.isSome = u.isSome := by
  cases o with
  | none => cases u with
    | none => rfl
    | some _ => exact (show False from r).elim
  | some _ => cases u with
    | none => exact (show False from r).elim
    | some _ => rfl
theorem KV.val {kvs : List (κ × V)} {vs : List (κ × Value)} (r : KV kvs vs) (k : κ) : RelO (valV kvs k) (valueAt vs k) := by
  unfold KV at r
  induction r with
  | nil => exact True.intro
  | @cons p q ps qs h t ih =>
    obtain ⟨h1, h2⟩ := h
    by_cases e : p.1 = k
    · have e' : q.1 = k := h1.symm.trans e
      have b : valueAt (q :: qs) k = some q.2 := by simp [valueAt, List.find?_cons, e']
      rw [valV_pos e, b]; exact h2
    · have e' : ¬ q.1 = k := fun z => e (h1.trans z)
      have b : valueAt (q :: qs) k = valueAt qs k := by simp [valueAt, List.find?_cons, e']
      rw [valV_neg e, b]; exact ih
theorem KV.any {kvs : List (κ × V)} {vs : List (κ × Value)} (r : KV kvs vs) (k : κ) : (kvs.any fun kv => decide (kv.1 = k)) = vs.any fun kv => decide (kv.1 = k) := by
  unfold KV at r
  induction r with
  | nil => rfl
  | cons h t ih => rw [List.any_cons, List.any_cons, ih, h.1]
theorem KV.repl {kvs : List (κ × V)} {vs : List (κ × Value)} (r : KV kvs vs) (k : κ) {y : V} {u : Value} (ry : RelV y u) :
    KV (kvs.map fun kv => if kv.1 = k then (kv.1, y) else kv) (vs.map fun kv => if kv.1 = k then (kv.1, u) else kv) := by
  unfold KV at r ⊢
  induction r with
  | nil => exact .nil
  | @cons p q ps qs h t ih =>
    rw [List.map_cons, List.map_cons]
    refine .cons ?_ ih
    obtain ⟨h1, h2⟩ := h
    by_cases e : p.1 = k
    · rw [if_pos e, if_pos (h1.symm.trans e)]; exact ⟨h1, ry⟩
    · rw [if_neg e, if_neg (fun z => e (h1.trans z))]; exact ⟨h1, h2⟩
theorem KV.put {kvs : List (κ × V)} {vs : List (κ × Value)} (r : KV kvs vs) (k : κ) {y : V} {u : Value} (ry : RelV y u) : KV (putK kvs k y) (stored vs k u) := by
  unfold putK stored
  rw [r.any k]
  by_cases e : (vs.any fun kv => decide (kv.1 = k)) = true
  · rw [if_pos e, if_pos e]; exact r.repl k ry
  · rw [if_neg e, if_neg e]; exact Paired.snoc r ⟨rfl, ry⟩
theorem KV.keys {kvs : List (κ × V)} {vs : List (κ × Value)} (r : KV kvs vs) : kvs.map (·.1) = vs.map (·.1) := by
  unfold KV at r
  induction r with
  | nil => rfl
  | cons h t ih => rw [List.map_cons, List.map_cons, ih, h.1]
theorem KV.length {kvs : List (κ × V)} {vs : List (κ × Value)} (r : KV kvs vs) : kvs.length = vs.length := Paired.length r
end
theorem kV_is {P : Program} {w : World} {k : Key} {u : Value} (r : RelV (kV k) u) : (mixKind P w).is k u = true := by
  cases k with
  | inl i => obtain ⟨t, e⟩ := (show ∃ t, u = Value.int i t from r); subst e; exact mixKind_int P w i t
  | inr x => obtain ⟨t, e⟩ := (show ∃ t, u = Value.str x t from r); subst e; exact mixKind_str P w x t
theorem items_are {P : Program} {w : World} : ∀ {ks : List Key} {us : List Value}, Vals (ks.map kV) us → ItemsAre (mixKind P w) ks us
  | [], _, r => by rw [List.map_nil] at r; cases r; exact .nil
  | k :: ks, _, r => by
    rw [List.map_cons] at r
    cases r with
    | cons h t => exact .cons (kV_is h) (items_are t)
abbrev KT (H : Hp) : List (List Key × V) → List (List Key × Addr × Value) → Prop := Paired fun p q => p.1 = q.1 ∧ H q.2.1 = some (.tup (p.1.map kV)) ∧ RelV p.2 q.2.2
theorem KT.val {H : Hp} {kvs : List (List Key × V)} {xs : List (List Key × Addr × Value)} (r : KT H kvs xs) (k : List Key) : RelO (valV kvs k) ((atKey xs k).map (·.2)) := by
  induction r with
  | nil => exact True.intro
  | @cons p q ps qs h t ih =>
    obtain ⟨h1, _, h2⟩ := h
    by_cases e : p.1 = k
    · have e' : q.1 = k := h1.symm.trans e
      have b : atKey (q :: qs) k = some q.2 := by simp [atKey, List.find?_cons, e']
      rw [valV_pos e, b]; exact h2
    · have e' : ¬ q.1 = k := fun z => e (h1.trans z)
      have b : atKey (q :: qs) k = atKey qs k := by simp [atKey, List.find?_cons, e']
      rw [valV_neg e, b]; exact ih
theorem KT.repl {H : Hp} {kvs : List (List Key × V)} {xs : List (List Key × Addr × Value)} (r : KT H kvs xs) (k : List Key) {y : V} {u : Value} (ry : RelV y u) :
    KT H (kvs.map fun kv => if kv.1 = k then (kv.1, y) else kv) (xs.map (putAt k u)) := by
  induction r with
  | nil => exact .nil
  | @cons p q ps qs h t ih =>
    rw [List.map_cons, List.map_cons]
    refine .cons ?_ ih
    obtain ⟨h1, h2, h3⟩ := h
    unfold putAt
    by_cases e : p.1 = k
    · rw [if_pos e, if_pos (h1.symm.trans e)]; exact ⟨h1, h2, ry⟩
    · rw [if_neg e, if_neg (fun z => e (h1.trans z))]; exact ⟨h1, h2, h3⟩
theorem KT.put {H : Hp} {kvs : List (List Key × V)} {xs : List (List Key × Addr × Value)} (r : KT H kvs xs) (k : List Key) {b : Addr} {y : V} {u : Value} (hb : H b = some (.tup (k.map kV))) (ry : RelV y u) :
    KT H (putK kvs k y) (storedH xs k b u) := by
  have e : (kvs.any fun kv => decide (kv.1 = k)) = (atKey xs k).isSome := by
    rw [valV_any, (r.val k).isSome_eq, Option.isSome_map]
  unfold putK storedH
  rw [e]
  by_cases q : (atKey xs k).isSome = true
  · rw [if_pos q, if_pos q]; exact r.repl k ry
  · rw [if_neg q, if_neg q]; exact Paired.snoc r ⟨rfl, hb, ry⟩
theorem KT.keeps {H H' : Hp} {kvs : List (List Key × V)} {xs : List (List Key × Addr × Value)} (r : KT H kvs xs) (ht : ∀ b ys, H b = some (.tup ys) → H' b = some (.tup ys)) : KT H' kvs xs :=
  Paired.mapP r fun _ _ z => ⟨z.1, ht _ _ z.2.1, z.2.2⟩
section
variable {P : Program} {w : World} {H : Hp} {h : Heap} {a : Addr}
theorem rd_of {u : HO} (ok : HOk P w H h) (e : Rd H a u) : ObjOk P w H h a u := e.ok ok
theorem dk_rd {kvs : List (Key × V)} (ok : HOk P w H h) (e : Rd H a (.dK kvs)) : kvs.length ≤ sizeLine ∧ (a == sysModules) = false ∧ ∃ vs, KV kvs vs ∧ h.DictOf (mixKind P w) a vs :=
  show ObjOk P w H h a (.dK kvs) from rd_of ok e
theorem dk_of {kvs : List (Key × V)} (ok : HOk P w H h) (e : H a = some (.dK kvs)) : kvs.length ≤ sizeLine ∧ (a == sysModules) = false ∧ ∃ vs, KV kvs vs ∧ h.DictOf (mixKind P w) a vs := dk_rd ok (.inl e)
theorem key_of {ks : List Key} (ok : HOk P w H h) (e : H a = some (.tup (ks.map kV))) : (tupleKind (mixKind P w)).is h ks a := by
  obtain ⟨_, its, r, o, h1, h2, n, h3⟩ := (show ObjOk P w H h a (.tup (ks.map kV)) from ok a _ e)
  exact ⟨o, its.toArray, n, h1, h2, h3, by simpa using items_are r⟩
theorem dt_rd {kvs : List (List Key × V)} (ok : HOk P w H h) (e : Rd H a (.dT kvs)) : kvs.length ≤ sizeLine ∧ (a == sysModules) = false ∧
    ∃ xs, KT H kvs xs ∧ h.DictOfH (tupleKind (mixKind P w)) a xs := by
  obtain ⟨z, y, xs, r, o, es, ep, h1, h2, h3, h4, h5⟩ := (show ObjOk P w H h a (.dT kvs) from rd_of ok e)
  refine ⟨z, y, xs, r, o, es, ep, h1, h2, h3, h4, fun x hx => ?_, h5⟩
  have all : ∀ {l : List (List Key × V)} {m : List (List Key × Addr × Value)}, KT H l m → ∀ x ∈ m, (tupleKind (mixKind P w)).is h x.1 x.2.1 := by
    intro l m q
    induction q with
    | nil => intro x hx; exact nomatch hx
    | @cons p q ps qs hq t ih =>
      intro x hx
      rcases List.mem_cons.mp hx with e | hx
      · subst e
        exact key_of ok (by rw [← hq.1]; exact hq.2.1)
      · exact ih x hx
  exact all r x hx
theorem dt_of {kvs : List (List Key × V)} (ok : HOk P w H h) (e : H a = some (.dT kvs)) : kvs.length ≤ sizeLine ∧ (a == sysModules) = false ∧
    ∃ xs, KT H kvs xs ∧ h.DictOfH (tupleKind (mixKind P w)) a xs := dt_rd ok (.inl e)
end
def DGet (H : Hp) (a : Addr) (y : V) (r : Option V) : Prop :=
  (∃ kvs k, Rd H a (.dK kvs) ∧ y = kV k ∧ r = valV kvs k) ∨ ∃ kvs k b, Rd H a (.dT kvs) ∧ y = .ref b ∧ H b = some (.tup (k.map kV)) ∧ r = valV kvs k
def DPut (H : Hp) (a : Addr) (y v : V) (H' : Hp) : Prop :=
  (∃ kvs k, H a = some (.dK kvs) ∧ y = kV k ∧ kvs.length < sizeLine ∧ H' = upd H a (.dK (putK kvs k v))) ∨
  ∃ kvs k b, H a = some (.dT kvs) ∧ y = .ref b ∧ H b = some (.tup (k.map kV)) ∧ kvs.length < sizeLine ∧ H' = upd H a (.dT (putK kvs k v))
theorem DGet.k {H : Hp} {a : Addr} {kvs : List (Key × V)} {k : Key} (e : H a = some (.dK kvs)) : DGet H a (kV k) (valV kvs k) := .inl ⟨kvs, k, .inl e, rfl, rfl⟩
theorem DGet.t {H : Hp} {a b : Addr} {kvs : List (List Key × V)} {k : List Key} (e : H a = some (.dT kvs)) (eb : H b = some (.tup (k.map kV))) : DGet H a (.ref b) (valV kvs k) := .inr ⟨kvs, k, b, .inl e, rfl, eb, rfl⟩
theorem DPut.k {H : Hp} {a : Addr} {kvs : List (Key × V)} {k : Key} {v : V} (e : H a = some (.dK kvs)) (hl : kvs.length < sizeLine) : DPut H a (kV k) v (upd H a (.dK (putK kvs k v))) := .inl ⟨kvs, k, e, rfl, hl, rfl⟩
theorem DPut.t {H : Hp} {a b : Addr} {kvs : List (List Key × V)} {k : List Key} {v : V} (e : H a = some (.dT kvs)) (eb : H b = some (.tup (k.map kV))) (hl : kvs.length < sizeLine) :
    DPut H a (.ref b) v (upd H a (.dT (putK kvs k v))) := .inr ⟨kvs, k, b, e, rfl, eb, hl, rfl⟩
section
variable {X : Cx} {pins : List (Addr × Obj)} {σ : St} {H : Hp} {s : Shared} {a : Addr} {y v : V} {u r : Value} {o : Option V} {A : Around} {E : Value → Shared → Prop}
theorem Inv.big (I : Inv X pins σ H s) : sysModules < s.heap.objs.size := by
  have h : mainGlobals < s.heap.objs.size := (I.mod.glob.keeps I.bk).lt
  exact Nat.lt_trans (by decide) h
theorem d_getItem {Q : Value → Shared → Prop} (hu : A.units + 1 < cLine) (I : Inv X pins σ H s) (g : DGet H a y (some v)) (ry : RelV y u) (h : ∀ w' s', Inv X pins σ H s' → RelV v w' → Q w' s') :
    wpAny (model X.prog X.w) A (getItem (.ref a) u) Q E s := by
  rcases g with ⟨kvs, k, e, ey, l⟩ | ⟨kvs, k, b, e, ey, eb, l⟩
  · subst ey
    obtain ⟨z, hd, vs, rel, dd⟩ := dk_rd I.hok e
    obtain ⟨w', hw, rw'⟩ := RelO.some_of (v := v) (o := valueAt vs k) (by rw [l]; exact rel.val k)
    exact wpAny_getItem_of (kV_is ry) dd.mapOf hw (h w' _ (I.tok _) rw')
  · subst ey
    cases (show u = Value.ref b from ry)
    obtain ⟨z, hd, xs, rel, dd⟩ := dt_rd I.hok e
    obtain ⟨w', hw, rw'⟩ := RelO.some_of (v := v) (o := (atKey xs k).map (·.2)) (by rw [l]; exact rel.val k)
    obtain ⟨p, hp, hp2⟩ := omi hw
    refine wpAny_getItem_heap (tupleKind_room_in1 hu) (key_of I.hok eb) dd hp ?_
    rw [hp2]
    exact h w' _ (I.tok _) rw'
theorem d_in {Q : Value → Shared → Prop} (hu : A.units + 1 < cLine) (I : Inv X pins σ H s) (g : DGet H a y o) (ry : RelV y u) (h : ∀ s', Inv X pins σ H s' → Q (.bool o.isSome) s') :
    wpAny (model X.prog X.w) A (compareOp .In u (.ref a)) Q E s := by
  rcases g with ⟨kvs, k, e, ey, l⟩ | ⟨kvs, k, b, e, ey, eb, l⟩
  · subst ey
    obtain ⟨z, hd, vs, rel, dd⟩ := dk_rd I.hok e
    refine wpAny_in_of (kV_is ry) hd dd.mapOf ?_
    rw [← (rel.val k).isSome_eq, ← l]
    exact h _ (I.tok _)
  · subst ey
    cases (show u = Value.ref b from ry)
    obtain ⟨z, hd, xs, rel, dd⟩ := dt_rd I.hok e
    refine wpAny_in_heap (tupleKind_room_in1 hu) (key_of I.hok eb) hd dd ?_
    have q := (rel.val k).isSome_eq
    rw [Option.isSome_map] at q
    rw [← q, ← l]
    exact h _ (I.tok _)
theorem d_notIn {Q : Value → Shared → Prop} (hu : A.units + 1 < cLine) (I : Inv X pins σ H s) (g : DGet H a y o) (ry : RelV y u) (h : ∀ s', Inv X pins σ H s' → Q (.bool (!o.isSome)) s') :
    wpAny (model X.prog X.w) A (compareOp .NotIn u (.ref a)) Q E s := by
  rcases g with ⟨kvs, k, e, ey, l⟩ | ⟨kvs, k, b, e, ey, eb, l⟩
  · subst ey
    obtain ⟨z, hd, vs, rel, dd⟩ := dk_rd I.hok e
    refine wpAny_notIn_of (kV_is ry) hd dd.mapOf ?_
    rw [← (rel.val k).isSome_eq, ← l]
    exact h _ (I.tok _)
  · subst ey
    cases (show u = Value.ref b from ry)
    obtain ⟨z, hd, xs, rel, dd⟩ := dt_rd I.hok e
    refine wpAny_notIn_heap (tupleKind_room_in1 hu) (key_of I.hok eb) hd dd ?_
    have q := (rel.val k).isSome_eq
    rw [Option.isSome_map] at q
    rw [← q, ← l]
    exact h _ (I.tok _)
theorem d_write {h' : Heap} {t' : Nat} {ob : HO} (I : Inv X pins σ H s) (mu : Mut (H a)) (hs : Heap.SameBut a s.heap h') (he : ∃ q, h'.get? a = some q) (new : ObjOk X.prog X.w (upd H a ob) h' a ob) :
    Inv X pins σ (upd H a ob) { s with heap := h', toks := t' } :=
  I.write (x := a) (e := a) mu (.inl rfl) (fun b q hb z => (hs.2 b hb).trans z) he new
theorem dk_new {P : Program} {w : World} {H' : Hp} {h' : Heap} {kvs : List (Key × V)} {vs : List (Key × Value)} (z : kvs.length ≤ sizeLine) (hd : (a == sysModules) = false) (rel : KV kvs vs) (dd : h'.DictOf (mixKind P w) a vs) :
    ObjOk P w H' h' a (.dK kvs) := ⟨z, hd, vs, rel, dd⟩
theorem d_setItem {H' : Hp} {Q : Unit → Shared → Prop} (hu : A.units + 1 < cLine) (I : Inv X pins σ H s) (g : DPut H a y v H') (ry : RelV y u) (rv : RelV v r) (h : ∀ s', Inv X pins σ H' s' → Q () s') :
    wpAny (model X.prog X.w) A (setItem (.ref a) u r) Q E s := by
  rcases g with ⟨kvs, k, e, ey, l, eH⟩ | ⟨kvs, k, b, e, ey, eb, l, eH⟩
  · subst ey eH
    obtain ⟨z, hd, vs, rel, dd⟩ := dk_of I.hok e
    have hz : vs.length ≤ sizeLine := by rw [← rel.length]; exact z
    have hl : (putK kvs k v).length ≤ sizeLine := by have := length_putK kvs k v; omega
    refine wpAny_setItem_pairs (hsz := hz) (kV_is ry) dd fun h' dd' hs => h _ ?_
    have he : ∃ q, h'.get? a = some q := let ⟨q, _, _, hq, _⟩ := dd'; ⟨q, hq⟩
    exact d_write I (by rw [e]; exact True.intro) hs he (dk_new hl hd (rel.put k rv) dd')
  · subst ey eH
    cases (show u = Value.ref b from ry)
    obtain ⟨z, hd, xs, rel, dd⟩ := dt_of I.hok e
    have hz : xs.length ≤ sizeLine := by rw [← Paired.length rel]; exact z
    have hl : (putK kvs k v).length ≤ sizeLine := by have := length_putK kvs k v; omega
    refine wpAny_setItem_heap (hsz := hz) (tupleKind_room_in1 hu) (key_of I.hok eb) dd fun h' dd' hs => h _ ?_
    obtain ⟨q, es, ep, hq, h2, h3, h4, _, h5⟩ := dd'
    refine d_write I (by rw [e]; exact True.intro) hs ⟨q, hq⟩ ⟨hl, hd, _, (rel.put k eb rv).keeps fun c ys ec => ?_, q, es, ep, hq, h2, h3, h4, h5⟩
    rw [upd_ne (ne_of ec e (fun z => nomatch z))]
    exact ec
end
section
variable {X : Cx} {pins : List (Addr × Obj)} {σ : St} {H : Hp} {s : Shared} {a : Addr} {kvs : List (Key × V)} {k : Key} {u : Value} {A : Around} {E : Value → Shared → Prop}
end
def NoSl (i : Expr) : Prop := ∀ ov iv, subscripted i false ov iv = operate [ov, iv] (getItem ov iv)
theorem subD_of {prog : Program} {w : World} {A : Around} {E : Value → Shared → Prop} {s : Shared} {env : Env} {value slice : Expr} {pos : Pos} {T id : String} {Q : Value → Shared → Prop}
    (hl : typeLookup (.type T) "__getitem__" = pure (some (.builtin id))) (hs : NoSl slice)
    (h : wpAny (model prog w) A (eval value env) (fun o s₁ => wpAny (model prog w) A (eval slice env) (fun i s₂ => s₂.TypeIs o T ∧ wpAny (model prog w) A (getItem o i) Q E s₂) E s₁) E s) :
    wpAny (model prog w) A (eval (.Subscript value slice pos) env) Q E s := by
  refine Subscript_ (wpAny_mono h (fun o s₁ h₁ => wpAny_mono h₁ (fun i s₂ h₂ => ?_) fun _ _ x => x) fun _ _ x => x)
  obtain ⟨hT, h₂⟩ := h₂
  unfold subscriptTail
  refine wpAny_bind ?_
  rw [getitemInPython_of_ne hT.not_modules]
  refine wpAny_bind (wpAny_specialOf hT hl ?_)
  have fin : wpAny (model prog w) A (subscripted slice false o i) (fun r s₃ => wpAny (model prog w) A (letTemporaryGo value o r >>= fun _ => pure r) Q E s₃) E s₂ := by
    rw [hs o i]
    exact wpAny_operating (wpAny_mono h₂ (fun r s₃ h₃ => wpAny_bind (wpAny_letTemporaryGo (wpAny_pure h₃))) fun _ _ x => x)
  first
    | exact wpAny_pure (wpAny_bind fin)
    | exact wpAny_bind (wpAny_pure (wpAny_bind fin))
    | exact wpAny_bind fin
theorem dict_typeIs {X : Cx} {pins : List (Addr × Obj)} {σ : St} {H : Hp} {s : Shared} {a : Addr} {y : V} {o : Option V} (I : Inv X pins σ H s) (g : DGet H a y o) : s.TypeIs (.ref a) "dict" := by
  rcases g with ⟨kvs, k, e, _, _⟩ | ⟨kvs, k, b, e, _, _, _⟩
  · obtain ⟨_, _, vs, _, dd⟩ := dk_rd I.hok e
    exact dd.typeIs
  · obtain ⟨_, _, xs, _, dd⟩ := dt_rd I.hok e
    exact dd.typeIs
def tDGet (td ty : TE) : TE := fun σ H Q => td σ H fun x H1 => ty σ H1 fun y H2 => ∃ a v, x = .ref a ∧ DGet H2 a y (some v) ∧ Q v H2
def sDPut (td ty tv : TE) : TS := fun D σ H => tv σ H fun v H1 => td σ H1 fun x H2 => ty σ H2 fun y H3 => ∃ a H4, x = .ref a ∧ DPut H3 a y v H4 ∧ D.nx σ H4
section
variable {X : Cx} {o i e value : Expr} {pos pos' tpos : Pos} {td ty tv : TE}
theorem pe_dget (hu : X.A.units + 1 < cLine) (ho : PE X o td) (hi : PE X i ty) (hs : NoSl i) : PE X (.Subscript o i pos) (tDGet td ty) := by
  intro pins s σ H Q I h
  refine subD_of PySem.F.slot_dict_getitem.lookup hs (thn (ho pins s σ H _ I h) fun u s1 ⟨x, H1, I1, rx, q1⟩ => thn (hi pins s1 σ H1 _ I1 q1) fun iv s2 ⟨y, H2, I2, ry, a, v, ex, g, q2⟩ => ?_)
  subst ex
  obtain rfl : u = Value.ref a := rx
  exact ⟨dict_typeIs I2 g, d_getItem hu I2 g ry fun w' s3 I3 rw' => ⟨v, H2, I3, rw', q2⟩⟩
theorem ps_dput (hu : X.A.units + 1 < cLine) (ho : PE X o td) (hi : PE X i ty) (hv : PE X value tv) (hs : swapsWith value (some (.Subscript o i pos')) pos.line X.env = pure false) :
    PS X (.Assign [.Subscript o i pos'] value pos) (sDPut td ty tv) := by
  intro pins s σ H D I h
  refine wpAny_Assign_Subscript (thn (hv pins s σ H _ I h) fun r s1 ⟨v, H1, I1, rv, q1⟩ => thn (ho pins s1 σ H1 _ I1 q1) fun u s2 ⟨x, H2, I2, rx, q2⟩ => thn (hi pins s2 σ H2 _ I2 q2) fun iv s3 ⟨y, H3, I3, ry, a, H4, ex, g, q3⟩ => ?_) hs
  subst ex
  obtain rfl : u = Value.ref a := rx
  exact d_setItem hu I3 g ry rv fun s4 I4 => ⟨σ, H4, I4, q3⟩
end
theorem dk_empty {P : Program} {w : World} {H : Hp} (h : Heap) (hb : sysModules < h.objs.size) : ObjOk P w H (h.push { cls := .type "dict", data := .dict #[] }) h.objs.size (.dK []) :=
  ⟨Nat.zero_le _, beq_eq_false_iff_ne.mpr (Ne.symm (Nat.ne_of_lt hb)), [], .nil, Heap.DictOf.new h⟩
def tDNewK : TE := fun _ H Q => ∀ p, H p = none → Q (.ref p) (upd H p (.dK []))
section
variable {X : Cx} {pos : Pos}
theorem pe_dnewK : PE X (.Dict [] [] pos) tDNewK := fun pins s σ H Q I h =>
  wpAny_Dict_empty ⟨.ref s.heap.objs.size, _, I.laid (a := s.heap.objs.size) (o := .dK []) (t' := s.toks) (fun _ _ q => Heap.get?_push_of_some _ q) (Nat.le_refl _) (dk_empty s.heap I.big), rfl, h _ (I.hok.fresh (Nat.le_refl _))⟩
end
structure M1 (X : Cx) (o : Expr) (m : Str) (apos : Pos) (e : Expr) (cpos : Pos) : Prop where
  base : attributeBase o m X.env (eval o X.env) = eval o X.env
  few : ((backTo cpos (starEach [e] X.env)).all (fun x => !x.1) && (backToKw cpos (keywordEach [] X.env)).all (fun x => x.1.isSome)
    && decide (([e] : List Expr).length + ([] : List Keyword).length + (if ([] : List Keyword).isEmpty then 0 else 1) < 30)) = true
  line : (apos.endLine == cpos.line) = true
  trees : backTo cpos (starEach [e] X.env) = [(false, eval e X.env)]
structure M2 (X : Cx) (o : Expr) (m : Str) (apos : Pos) (e f : Expr) (cpos : Pos) : Prop where
  base : attributeBase o m X.env (eval o X.env) = eval o X.env
  few : ((backTo cpos (starEach [e, f] X.env)).all (fun x => !x.1) && (backToKw cpos (keywordEach [] X.env)).all (fun x => x.1.isSome)
    && decide (([e, f] : List Expr).length + ([] : List Keyword).length + (if ([] : List Keyword).isEmpty then 0 else 1) < 30)) = true
  line : (apos.endLine == cpos.line) = true
  trees : backTo cpos (starEach [e, f] X.env) = [(false, eval e X.env), (false, eval f X.env)]
section
variable {X : Cx} {pins : List (Addr × Obj)} {σ : St} {H : Hp} {s : Shared} {a : Addr} {y d : V} {u r : Value} {o : Option V} {A : Around} {E : Value → Shared → Prop}
end
section
variable {X : Cx} {o e f : Expr} {apos cpos : Pos} {td ty tx : TE}
end
section
variable {X : Cx} {pins : List (Addr × Obj)} {σ : St} {H : Hp} {s : Shared} {a : Addr} {kvs : List (Key × V)} {A : Around} {E : Value → Shared → Prop}
end
section
variable {X : Cx} {pins : List (Addr × Obj)} {σ : St} {H : Hp} {s : Shared} {a : Addr} {y : V} {u : Value} {A : Around} {E : Value → Shared → Prop}
end
end L2
namespace HT
open PySem PyProof.Rows
section
open PySem.SeqAt
open PySem.AutoSeq1 (wpAny_loadPart')
open PySem.MeetsSeq PySem.MeetsSeq2 PySem.MeetsSeq3
end
section
variable {prog : Program} {w : World} {A : Around} {E : Value → Shared → Prop} {s : Shared}
theorem cat_tup {t b : Addr} {vs ws : List Value} {Q : Value → Shared → Prop} (ht : IsTup s.heap t vs.toArray) (hb : IsTup s.heap b ws.toArray) (hv : vs ≠ [])
    (h1 : ws = [] → Q (.ref t) s) (h2 : ws ≠ [] → Q (.ref s.heap.objs.size) { s with heap := s.heap.push { cls := .type "tuple", data := .seq (vs ++ ws).toArray } })
    (hsz : vs.length + ws.length ≤ sizeLine) : wpAny (model prog w) A (binaryOp .Add (.ref t) (.ref b)) Q E s := by
  obtain ⟨⟨cls, dd, data, sl⟩, ho, hc, n, hd⟩ := id ht
  obtain ⟨⟨cls2, dd2, data2, sl2⟩, ho2, hc2, n2, hd2⟩ := id hb
  simp only at hc hd hc2 hd2
  subst hc hd hc2 hd2
  have e : vs.toArray ++ ws.toArray = (vs ++ ws).toArray := by simp
  by_cases hw : ws = []
  · exact concat_meets ⟨_, ho, rfl⟩ ⟨_, ho2, rfl⟩ noFill_tuple_add seq_tuple_add PySem.F.slot_tuple_add PySem.F.entry_tuple_add (PySem.F.args_tuple_add_2 _ _)
      (tuple_addW1 t b vs.toArray ws.toArray n n2 dd dd2 sl sl2 (by simpa using hv) (by simp [hw])) ⟨ho, ho2, h1 hw⟩
  · refine concat_meets ⟨_, ho, rfl⟩ ⟨_, ho2, rfl⟩ noFill_tuple_add seq_tuple_add PySem.F.slot_tuple_add PySem.F.entry_tuple_add (PySem.F.args_tuple_add_2 _ _)
      (tuple_addW2 t b vs.toArray ws.toArray n n2 dd dd2 sl sl2 (by simpa using hv) (by simpa using hw) (by rw [List.size_toArray, List.size_toArray]; exact hsz)) ⟨ho, ho2, ?_⟩
    rw [e]
    exact h2 hw
def sIx (n d : Nat) : Option Int → Nat
  | none => d
  | some v => if v < 0 then (v + (n : Int)).toNat else min v.toNat n
theorem sIx_le (n d : Nat) (hd : d ≤ n) (o : Option Int) : sIx n d o ≤ n := by
  cases o with
  | none => exact hd
  | some v =>
    show (if v < 0 then (v + (n : Int)).toNat else min v.toNat n) ≤ n
    by_cases hv : v < 0
    · rw [if_pos hv]; omega
    · rw [if_neg hv]; exact Nat.min_le_right _ _
theorem clip_eq (v : Int) (n d : Nat) : (if v < 0 then max (v + (n : Int)) 0 else min v (n : Int)) = ((sIx n d (some v) : Nat) : Int) := by
  show (if v < 0 then max (v + (n : Int)) 0 else min v (n : Int)) = (((if v < 0 then (v + (n : Int)).toNat else min v.toNat n) : Nat) : Int)
  by_cases hv : v < 0
  · simp only [if_pos hv]; omega
  · simp only [if_neg hv]; omega
theorem adjust_gen (lo hi : Option Int) (n : Nat) : Builtin.Slice.sliceAdjust lo hi 1 (n : Int) = (((sIx n 0 lo : Nat) : Int), ((sIx n n hi : Nat) : Int)) := by
  have h1 : ¬ ((1 : Int) < 0) := by omega
  unfold Builtin.Slice.sliceAdjust
  simp only [h1, if_false]
  refine Prod.ext ?_ ?_
  · cases lo with
    | none => rfl
    | some v => exact clip_eq v n 0
  · cases hi with
    | none => rfl
    | some v => exact clip_eq v n n
theorem places_gen (i j : Nat) : Builtin.Slice.slicePlaces (i : Int) (j : Int) 1 = j - i := by
  unfold Builtin.Slice.slicePlaces
  have h1 : (1 : Int) > 0 := by omega
  simp only [h1, if_true, Int.ediv_one]
  split <;> omega
theorem slicePart_ {v : Value} {o : Option Int} {Q : Option Int → Shared → Prop} (p : IsPart v o) (h : Q o s) : wpAny (model prog w) A (Builtin.Slice.slicePartIndex v) Q E s := by
  cases p with
  | none => exact slicePart_none h
  | int i t => exact slicePart_int h
theorem sliceApplied_gen {sl : Addr} {vl vu : Value} {lo hi : Option Int} {n : Nat} {Q : Int × Int × Nat → Shared → Prop} (hs : s.heap.IsSliceOf sl vl vu .none) (pl : IsPart vl lo) (pu : IsPart vu hi)
    (h : Q (((sIx n 0 lo : Nat) : Int), 1, sIx n n hi - sIx n 0 lo) s) : wpAny (model prog w) A (Builtin.Slice.sliceApplied (.ref sl) (pure (n : Int))) Q E s := by
  obtain ⟨os, hos, hcs, hds⟩ := id hs
  unfold Builtin.Slice.sliceApplied Builtin.Slice.sliceFields
  refine wpAny_bind (wpAny_bind (wpAny_field hos hds (x := vl) rfl (wpAny_bind (wpAny_field hos hds (x := vu) rfl (wpAny_bind (wpAny_field hos hds (x := .none) rfl (wpAny_pure ?_)))))))
  refine wpAny_bind (slicePart_none ?_)
  show wpAny _ _ (if ((1 : Int) == 0) = true then _ else _) _ _ s
  rw [if_neg (by decide)]
  refine wpAny_bind (slicePart_ pl (wpAny_bind (slicePart_ pu (wpAny_bind (wpAny_pure ?_)))))
  show wpAny _ _ (match Builtin.Slice.sliceAdjust lo hi 1 (n : Int) with | (lo, hi) => pure (lo, (1 : Int), Builtin.Slice.slicePlaces lo hi 1)) _ _ s
  rw [adjust_gen lo hi n]
  show wpAny _ _ (pure (((sIx n 0 lo : Nat) : Int), (1 : Int), Builtin.Slice.slicePlaces ((sIx n 0 lo : Nat) : Int) ((sIx n n hi : Nat) : Int) 1)) _ _ s
  rw [places_gen]
  exact wpAny_pure h
theorem pick_gen (xs : Array Value) (i k : Nat) : ((List.range k).filterMap fun (m : Nat) => xs[((i : Int) + (m : Int) * 1).toNat]?).toArray = ((xs.toList.drop i).take k).toArray := by
  have e : (fun (m : Nat) => xs[((i : Int) + (m : Int) * 1).toNat]?) = fun m => xs[i + m]? := by
    funext m
    have : ((i : Int) + (m : Int) * 1).toNat = i + m := by omega
    rw [this]
  rw [e]
  have := pick_run xs i k
  rw [List.filterMap_map] at this
  have e2 : ((fun x => xs[x]?) ∘ fun x => i + x) = fun m => xs[i + m]? := rfl
  rw [e2] at this
  rw [this]
theorem getItem_tuple_cut {t sl : Addr} {items : Array Value} {vl vu : Value} {lo hi : Option Int} {Q : Value → Shared → Prop} (ht : IsTup s.heap t items) (hs : s.heap.IsSliceOf sl vl vu .none) (pl : IsPart vl lo) (pu : IsPart vu hi)
    (hw : ¬ (sIx items.size 0 lo = 0 ∧ sIx items.size items.size hi = items.size))
    (h : Q (.ref s.heap.objs.size) { s with heap := s.heap.push { cls := .type "tuple", data := .seq ((items.toList.drop (sIx items.size 0 lo)).take (sIx items.size items.size hi - sIx items.size 0 lo)).toArray } })
    (hsz : items.size ≤ sizeLine) : wpAny (model prog w) A (getItem (.ref t) (.ref sl)) Q E s := by
  have htake : sizeOk (.seq ((items.toList.drop (sIx items.size 0 lo)).take (sIx items.size items.size hi - sIx items.size 0 lo)).toArray) := by
    show ((items.toList.drop (sIx items.size 0 lo)).take (sIx items.size items.size hi - sIx items.size 0 lo)).toArray.size ≤ sizeLine
    rw [List.size_toArray, List.length_take, List.length_drop, Array.length_toList]
    omega
  have hj : sIx items.size items.size hi ≤ items.size := sIx_le _ _ (Nat.le_refl _) hi
  obtain ⟨os, hos, hcs, hds⟩ := id hs
  have hTs : s.TypeIs (.ref sl) "slice" := ⟨os, hos, hcs⟩
  unfold getItem
  try with_reducible refine wpAny_holding ?_
  first | refine wpAny_bind (wpAny_pure ?_) | skip
  refine wpAny_bind (wpAny_sequenceKey ht.typeIs (by decide) ?_)
  refine wpAny_bind (wpAny_callSpecial?_slot (name := Str.ofString "__getitem__") ht.typeIs PyProof.Rows.slot_tuple_getitem
    (wpAny_call_entry PyProof.Rows.slot_tuple_getitem ht.typeIs entry_tuple_getitem ?_ (args_tuple_getitem _ _)))
  show wpAny _ _ (Builtin.Tuple.tupleItemsOf (.ref t) >>= _) _ _ s
  refine wpAny_bind (tupleItemsOf_ ht ?_)
  refine wpAny_bind (wpAny_typeOf hTs ?_)
  rw [if_pos (by decide)]
  refine wpAny_bind (sliceApplied_gen hs pl pu ?_)
  have hno : ¬ ((((sIx items.size 0 lo : Nat) : Int) == 0 && (1 : Int) == 1 && (sIx items.size items.size hi - sIx items.size 0 lo) == items.size) = true) := by
    intro q
    rw [Bool.and_eq_true, Bool.and_eq_true] at q
    have q1 : ((sIx items.size 0 lo : Nat) : Int) = 0 := eq_of_beq q.1.1
    have q2 : sIx items.size items.size hi - sIx items.size 0 lo = items.size := eq_of_beq q.2
    exact hw ⟨by omega, by omega⟩
  show wpAny _ _ (if (((sIx items.size 0 lo : Nat) : Int) == 0 && (1 : Int) == 1 && (sIx items.size items.size hi - sIx items.size 0 lo) == items.size) = true then _ else _) _ _ s
  rw [if_neg hno, pick_gen]
  first
    | exact wpAny_bind (m := Builtin.Tuple.tupleExact _) (wpAny_newObj_type (wpAny_pure ⟨_, rfl, wpAny_pure h⟩) htake)
    | exact wpAny_bind (m := Builtin.Tuple.tupleExact _) (wpAny_newObj_type (wpAny_bind (wpAny_pure (wpAny_pure ⟨_, rfl, wpAny_pure h⟩))) htake)
    | exact wpAny_bind (wpAny_bind (m := Builtin.Tuple.tupleExact _) (wpAny_newObj_type (wpAny_pure (wpAny_pure ⟨_, rfl, wpAny_pure h⟩)) htake))
    | exact wpAny_bind (wpAny_bind (m := Builtin.Tuple.tupleExact _) (wpAny_newObj_type (wpAny_pure ⟨_, rfl, wpAny_pure h⟩) htake))
end
end HT
namespace L2
open PySem PySem.Spec PyProof.Rows
abbrev TO := St → Hp → (Option Int → Hp → Prop) → Prop
def PO (X : Cx) (e : Option Expr) (t : TO) : Prop :=
  ∀ (pins : List (Addr × Obj)) (s : Shared) (σ : St) (H : Hp) (Q : Option Int → Hp → Prop), Inv X pins σ H s → t σ H Q →
    wpAny (model X.prog X.w) X.A (evalPart e X.env) (fun u s' => ∃ o H', Inv X pins σ H' s' ∧ IsPart u o ∧ Q o H') X.xe s
def tNoPart : TO := fun _ H Q => Q none H
def tPart (t : TE) : TO := fun σ H Q => t σ H fun x H1 => ∃ i, x = .int i ∧ Q (some i) H1
section
variable {X : Cx} {e : Expr} {te : TE} {lo hi : Option Expr} {tl th : TO} {pos p2 : Pos}
theorem po_none : PO X none tNoPart := by
  intro pins s σ H Q I h
  rw [evalPart_none]
  exact wpAny_pure ⟨none, H, I, .none, h⟩
theorem po_some (h : PE X e te) : PO X (some e) (tPart te) := by
  intro pins s σ H Q I hw
  rw [evalPart_some]
  refine thn (h pins s σ H _ I hw) fun u s1 ⟨x, H1, I1, r1, q1⟩ => ?_
  obtain ⟨i, rfl, q⟩ := q1
  obtain ⟨t, rfl⟩ := r1
  exact ⟨some i, H1, I1, .int i t, q⟩
def SlR (X : Cx) (r : V → Option Int → Option Int → Hp → VK → Prop) : Prop :=
  ∀ (pins : List (Addr × Obj)) (s : Shared) (σ : St) (H : Hp) (x : V) (v vl vu : Value) (lo hi : Option Int) (sl : Addr) (Q : VK), Inv X pins σ H s → RelV x v → s.heap.IsSliceOf sl vl vu .none → IsPart vl lo → IsPart vu hi → r x lo hi H Q →
    ∃ T id, typeLookup (.type T) "__getitem__" = pure (some (.builtin id)) ∧ s.TypeIs v T ∧ wpAny (model X.prog X.w) X.A (getItem v (.ref sl)) (EP X pins σ Q) X.xe s
theorem SlR.or {r r' : V → Option Int → Option Int → Hp → VK → Prop} (h : SlR X r) (h' : SlR X r') : SlR X (fun x lo hi H Q => r x lo hi H Q ∨ r' x lo hi H Q) := by
  intro pins s σ H x v vl vu lo hi sl Q I rx hs pl pu q
  rcases q with q | q
  · exact h pins s σ H x v vl vu lo hi sl Q I rx hs pl pu q
  · exact h' pins s σ H x v vl vu lo hi sl Q I rx hs pl pu q
def tSl (r : V → Option Int → Option Int → Hp → VK → Prop) (te : TE) (tl th : TO) : TE := fun σ H Q => te σ H fun x H1 => tl σ H1 fun l H2 => th σ H2 fun u H3 => r x l u H3 Q
theorem pe_slice {r : V → Option Int → Option Int → Hp → VK → Prop} (hr : SlR X r) (he : PE X e te) (hl : PO X lo tl) (hu : PO X hi th) : PE X (.Subscript e (.Slice lo hi none p2) pos) (tSl r te tl th) := by
  intro pins s σ H Q I h
  refine Subscript_ (thn (he pins s σ H _ I h) fun v s1 ⟨x, H1, I1, r1, q1⟩ => ?_)
  refine wpAny_Slice (thn (hl pins s1 σ H1 _ I1 q1) fun vl s2 ⟨l, H2, I2, pl, q2⟩ => thn (hu pins s2 σ H2 _ I2 q2) fun vu s3 ⟨u, H3, I3, pu, q3⟩ => ?_)
  rw [evalPart_none]
  refine wpAny_pure ?_
  have I4 : Inv X pins σ H3 { s3 with heap := s3.heap.push { cls := .type "slice", data := .fields #[vl, vu, .none] } } := I3.kept (t' := s3.toks) fun b ob q => Heap.get?_push_of_some _ q
  obtain ⟨T, id, hT, ht, hg⟩ := hr pins { s3 with heap := s3.heap.push { cls := .type "slice", data := .fields #[vl, vu, .none] } } σ H3 x v vl vu l u s3.heap.objs.size Q I4 r1 (Heap.IsSliceOf.new ..) pl pu q3
  show wpAny (model X.prog X.w) X.A (subscriptTail e (.Slice lo hi none p2) v (.ref s3.heap.objs.size)) (EP X pins σ Q) X.xe { s3 with heap := s3.heap.push { cls := .type "slice", data := .fields #[vl, vu, .none] } }
  exact tail_any (ops := [.ref s3.heap.objs.size, v]) ht hT hg (by with_unfolding_all rfl)
def cutV (xs : List V) (lo hi : Option Int) : List V := (xs.drop (HT.sIx xs.length 0 lo)).take (HT.sIx xs.length xs.length hi - HT.sIx xs.length 0 lo)
theorem cutV_length (xs : List V) (lo hi : Option Int) : (cutV xs lo hi).length ≤ xs.length := by
  unfold cutV
  rw [List.length_take, List.length_drop]
  omega
def rSlT (K : PySem.W.Frag) : V → Option Int → Option Int → Hp → VK → Prop := fun x lo hi H Q => ∃ a xs, x = .ref a ∧ SqT K H a xs ∧
  ¬ (HT.sIx xs.length 0 lo = 0 ∧ HT.sIx xs.length xs.length hi = xs.length) ∧ ∀ p, H p = none → Q (.ref p) (upd H p (.tup (cutV xs lo hi)))
theorem sl_tup : SlR X (rSlT X.K) := by
  intro pins s σ H x v vl vu lo hi sl Q I rx hs pl pu h
  obtain ⟨a, xs, rfl, hx, hw, q⟩ := h
  cases rx
  obtain ⟨its, r, ht, hz⟩ := I.tuple hx
  have hlen : its.toArray.size = xs.length := by rw [List.size_toArray]; exact r.length.symm
  refine ⟨"tuple", _, PyProof.Rows.slot_tuple_getitem.lookup, ht.typeIs, ?_⟩
  refine HT.getItem_tuple_cut ht hs pl pu (by rw [hlen]; exact hw) ?_ (by rw [hlen]; exact hz)
  rw [hlen]
  refine ⟨.ref s.heap.objs.size, _, I.laid (t' := s.toks) (o := .tup (cutV xs lo hi)) (fun b ob q => Heap.get?_push_of_some _ q) (Nat.le_refl _) ?_, rfl, q _ (I.hok.fresh (Nat.le_refl _))⟩
  exact ⟨Nat.le_trans (cutV_length xs lo hi) hz, _, (r.drop (HT.sIx xs.length 0 lo)).take (HT.sIx xs.length xs.length hi - HT.sIx xs.length 0 lo), IsTup.new _ _⟩
def rCatT (K : PySem.W.Frag) : R2 := fun x y H Q => ∃ a b xs ys, x = .ref a ∧ y = .ref b ∧ SqT K H a xs ∧ SqT K H b ys ∧ xs ≠ [] ∧ xs.length + ys.length ≤ sizeLine ∧
  (ys = [] → Q (.ref a) H) ∧ (ys ≠ [] → ∀ p, H p = none → Q (.ref p) (upd H p (.tup (xs ++ ys))))
theorem Vals.nil_iff {xs : List V} {us : List Value} (r : Vals xs us) : us = [] ↔ xs = [] := by
  cases r with
  | nil => simp
  | cons _ _ => simp
theorem op_catT : OpR X (binaryOp .Add) (rCatT X.K) := by
  intro pins s σ H x y v u Q I rx ry h
  obtain ⟨a, b, xs, ys, rfl, rfl, ha, hb, hx, hz, q1, q2⟩ := h
  cases rx
  cases ry
  obtain ⟨its, r1, p1, _⟩ := I.tuple ha
  obtain ⟨its2, r2, p2, _⟩ := I.tuple hb
  refine HT.cat_tup p1 p2 (fun z => hx (r1.nil_iff.mp z)) (fun z => ⟨.ref a, H, I, rfl, q1 (r2.nil_iff.mp z)⟩) (fun z => ?_) (by rw [← r1.length, ← r2.length]; exact hz)
  refine ⟨.ref s.heap.objs.size, _, I.laid (t' := s.toks) (o := .tup (xs ++ ys)) (fun b ob q => Heap.get?_push_of_some _ q) (Nat.le_refl _) ?_, rfl, q2 (fun w => z (r2.nil_iff.mpr w)) _ (I.hok.fresh (Nat.le_refl _))⟩
  exact ⟨by rw [List.length_append]; exact hz, _, r1.append r2, IsTup.new _ _⟩
end
end L2
namespace L2
open PySem PySem.Spec PyProof.Rows
def ixN (n : Nat) (i : Int) : Option Nat := if 0 ≤ i then (if i < n then some i.toNat else none) else if -(n : Int) ≤ i then some (i + n).toNat else none
def atI {α : Type} (xs : List α) (i : Int) : Option α := (ixN xs.length i).bind fun j => xs[j]?
theorem ixN_seq {n : Nat} {i : Int} {j : Nat} (h : ixN n i = some j) : seqIndex? i n = some j ∧ j < n ∧ -(n : Int) ≤ i ∧ i < n := by
  unfold ixN at h
  by_cases h0 : 0 ≤ i
  · rw [if_pos h0] at h
    by_cases h1 : i < n
    · rw [if_pos h1] at h
      have e : i.toNat = j := Option.some.inj h
      exact ⟨by rw [seqIndex_of h0 h1, e], by omega, by omega, h1⟩
    · rw [if_neg h1] at h; cases h
  · rw [if_neg h0] at h
    by_cases h1 : -(n : Int) ≤ i
    · rw [if_pos h1] at h
      have e : (i + n).toNat = j := Option.some.inj h
      exact ⟨by rw [seqIndex_neg (by omega) h1, e], by omega, h1, by omega⟩
    · rw [if_neg h1] at h; cases h
theorem atI_get {α : Type} {xs : List α} {i : Int} {v : α} (h : atI xs i = some v) : ∃ j, seqIndex? i xs.length = some j ∧ xs[j]? = some v ∧ j < xs.length ∧ -(xs.length : Int) ≤ i ∧ i < xs.length := by
  unfold atI at h
  cases e : ixN xs.length i with
  | none => rw [e] at h; cases h
  | some j =>
    rw [e] at h
    obtain ⟨h1, h2, h3, h4⟩ := ixN_seq e
    exact ⟨j, h1, h, h2, h3, h4⟩
def PlainIx (b : Expr) : Prop := ∀ o i, subscripted b false o i = operate [o, i] (getItem o i)
def IxR (X : Cx) (r : R2) : Prop :=
  ∀ (value slice : Expr) (pins : List (Addr × Obj)) (s : Shared) (σ : St) (H : Hp) (x y : V) (v u : Value) (Q : VK), Inv X pins σ H s → RelV x v → RelV y u → r x y H Q →
    subscripted slice false v u = operate [v, u] (getItem v u) → wpAny (model X.prog X.w) X.A (subscriptTail value slice v u) (EP X pins σ Q) X.xe s
def MtR (X : Cx) (id : String) (r : V → List V → Hp → VK → Prop) : Prop :=
  ∀ (pins : List (Addr × Obj)) (s : Shared) (σ : St) (H : Hp) (x : V) (xs : List V) (v : Value) (us : List Value) (Q : VK), Inv X pins σ H s → RelV x v → Vals xs us → r x xs H Q →
    wpAny (model X.prog X.w) X.A (call (.builtin id) (v :: us)) (EP X pins σ Q) X.xe s
section
variable {X : Cx} {a b : Expr} {ta tb : TE} {pos : Pos}
theorem IxR.or {r r' : R2} (h : IxR X r) (h' : IxR X r') : IxR X (fun x y H Q => r x y H Q ∨ r' x y H Q) := by
  intro value slice pins s σ H x y v u Q I rx ry q hs
  rcases q with q | q
  · exact h value slice pins s σ H x y v u Q I rx ry q hs
  · exact h' value slice pins s σ H x y v u Q I rx ry q hs
theorem MtR.or {id : String} {r r' : V → List V → Hp → VK → Prop} (h : MtR X id r) (h' : MtR X id r') : MtR X id (fun x xs H Q => r x xs H Q ∨ r' x xs H Q) := by
  intro pins s σ H x xs v us Q I rx rs q
  rcases q with q | q
  · exact h pins s σ H x xs v us Q I rx rs q
  · exact h' pins s σ H x xs v us Q I rx rs q
theorem pe_ix {r : R2} (hr : IxR X r) (ha : PE X a ta) (hb : PE X b tb) (hs : PlainIx b) : PE X (.Subscript a b pos) (tOp r ta tb) := by
  intro pins s σ H Q I h
  exact Subscript_ (binT ha hb I h fun v u s2 x y H2 I2 rx ry q => hr a b pins s2 σ H2 x y v u Q I2 rx ry q (hs _ _))
def rIxL (K : PySem.W.Frag) : R2 := fun x y H Q => ∃ p xs i v, x = .ref p ∧ y = .int i ∧ SqL K H p xs ∧ atI xs i = some v ∧ Q v H
def rIxT (K : PySem.W.Frag) : R2 := fun x y H Q => ∃ p xs i v, x = .ref p ∧ y = .int i ∧ SqT K H p xs ∧ atI xs i = some v ∧ Q v H
def rIxS : R2 := fun x y H Q => ∃ z i c, x = .str z ∧ y = .int i ∧ z.length ≤ sizeLine ∧ atI z.cps.toList i = some c ∧ Q (.str ⟨#[c]⟩) H
theorem ix_list : IxR X (rIxL X.K) := by
  intro value slice pins s σ H x y v u Q I rx ry h hs
  obtain ⟨p, xs, i, z, rfl, rfl, hq, he, q⟩ := h
  cases rx
  obtain ⟨t, rfl⟩ := ry
  obtain ⟨its, r, pl, hz⟩ := I.list hq
  obtain ⟨j, h1, h2, h3, h4, h5⟩ := atI_get he
  obtain ⟨w, ew, rw'⟩ := r.get h2
  have hl := r.length
  have hn := line63
  have fin : EP X pins σ Q w s := ⟨z, H, I, rw', q⟩
  by_cases h0 : 0 ≤ i
  · have hj : i.toNat = j := by
      rw [seqIndex_of h0 h5] at h1
      exact Option.some.inj h1
    exact item_listR pl.isList h0 (by omega) (by rw [hj]; simpa using ew) fin hs
  · have hj : (i + (its.toArray.size : Int)).toNat = j := by
      rw [seqIndex_neg (by omega) h4] at h1
      rw [List.size_toArray, ← hl]
      exact Option.some.inj h1
    exact subscriptTail_builtinR (x := w) pl.isList.typeIs slot_list_getitem.lookup
      (wpAny_getItem_list_neg (Q := fun r s' => r = w ∧ EP X pins σ Q r s') pl.isList (by omega) (by rw [List.size_toArray] <;> omega) (by omega) (by rw [hj]; simpa using ew) ⟨rfl, fin⟩) hs
theorem ix_tup : IxR X (rIxT X.K) := by
  intro value slice pins s σ H x y v u Q I rx ry h hs
  obtain ⟨p, xs, i, z, rfl, rfl, hq, he, q⟩ := h
  cases rx
  obtain ⟨t, rfl⟩ := ry
  obtain ⟨its, r, pl, hz⟩ := I.tuple hq
  obtain ⟨j, h1, h2, h3, h4, h5⟩ := atI_get he
  obtain ⟨w, ew, rw'⟩ := r.get h2
  have hl := r.length
  have hn := line63
  have fin : EP X pins σ Q w s := ⟨z, H, I, rw', q⟩
  exact subscriptTail_builtinR (x := w) pl.typeIs slot_tuple_getitem.lookup
    (getItem_tuple (j := j) (Q := fun r s' => r = w ∧ EP X pins σ Q r s') pl (by omega) (by omega) (by rw [List.size_toArray, ← hl]; exact h1) (by simpa using ew) ⟨rfl, fin⟩) hs
theorem ix_str : IxR X rIxS := by
  intro value slice pins s σ H x y v u Q I rx ry h hs
  obtain ⟨z, i, c, rfl, rfl, hz, he, q⟩ := h
  obtain ⟨t, rfl⟩ := rx
  obtain ⟨t', rfl⟩ := ry
  obtain ⟨j, h1, h2, h3, h4, h5⟩ := atI_get he
  have hl : z.cps.toList.length = z.length := by simp [Str.length]
  rw [hl] at h1 h4 h5
  have hn := line63
  exact tail_any (typeIs_str s z t) slot_str_getitem.lookup (getItem_str (c := c) (by
    have e1 : decide (i < -(2 ^ 63 : Int)) = false := decide_eq_false (by omega)
    have e2 : decide (i ≥ 2 ^ 63) = false := decide_eq_false (by omega)
    rw [e1, e2, Bool.or_false]) (by rw [h1]; simpa using h2) ⟨.str ⟨#[c]⟩, H, I.tok _, ⟨_, rfl⟩, q⟩) hs
theorem mapSeq_set (its : List Value) (n j : Nat) (u : Value) : Obj.mapSeq (·.setIfInBounds j u) { cls := .type "list", data := .seq its.toArray n } = { cls := .type "list", data := .seq (its.set j u).toArray n } := by
  simp [Obj.mapSeq]
theorem Inv.lst {pins : List (Addr × Obj)} {σ : St} {H : Hp} {s : Shared} {p : Addr} {xs : List V} (I : Inv X pins σ H s) (h : H p = some (.lst xs)) :
    ∃ (its : List Value) (n : Nat), Vals xs its ∧ s.heap.get? p = some { cls := .type "list", data := .seq its.toArray n } ∧ xs.length ≤ sizeLine := by
  obtain ⟨z, its, n, r, e⟩ := I.hok p _ h
  exact ⟨its, n, r, e, z⟩
theorem Inv.lstUpd {pins : List (Addr × Obj)} {σ : St} {H : Hp} {s : Shared} {p : Addr} {xs ys : List V} {its its' : List Value} {n n' : Nat} {f : Obj → Obj} (I : Inv X pins σ H s) (h : H p = some (.lst xs))
    (ho : s.heap.get? p = some { cls := .type "list", data := .seq its.toArray n }) (hf : f { cls := .type "list", data := .seq its.toArray n } = { cls := .type "list", data := .seq its'.toArray n' }) (r : Vals ys its') (hz : ys.length ≤ sizeLine) (t : Nat) :
    Inv X pins σ (upd H p (.lst ys)) { s with heap := s.heap.update p f, toks := t } := by
  have e : (s.heap.update p f).get? p = some { cls := .type "list", data := .seq its'.toArray n' } := by
    rw [Heap.get?_update_self f ho (by rw [hf] <;> rfl), hf]
  refine I.write (x := p) (e := p) (by rw [h]; trivial) (.inl rfl) (fun b u hb q => (Heap.get?_update_other _ _ (Ne.symm hb)).trans q) ⟨_, e⟩ ?_
  exact ⟨hz, its', n', r, e⟩
def rSetL : V → V → V → Hp → (Hp → Prop) → Prop := fun o i v H Q => ∃ p xs k j, o = .ref p ∧ i = .int k ∧ H p = some (.lst xs) ∧ ixN xs.length k = some j ∧ Q (upd H p (.lst (xs.set j v)))
theorem set_list : PSet X rSetL := by
  intro pins s σ H o i v ov iv u Q I ro ri rv h
  obtain ⟨p, xs, k, j, rfl, rfl, hp, hj, q⟩ := h
  cases ro
  obtain ⟨t, rfl⟩ := ri
  obtain ⟨its, n, r, ho, hz⟩ := I.lst hp
  obtain ⟨h1, h2, h3, h4⟩ := ixN_seq hj
  have hl := r.length
  have hn := line63
  have I' : Inv X pins σ (upd H p (.lst (xs.set j v))) { s with heap := s.heap.update p (Obj.mapSeq (·.setIfInBounds j u)) } :=
    I.lstUpd hp ho (mapSeq_set its n j u) (r.set rv j) (by rw [List.length_set]; exact hz) s.toks
  by_cases h0 : 0 ≤ k
  · have hk : k.toNat = j := by
      rw [seqIndex_of h0 h4] at h1
      exact Option.some.inj h1
    exact PySem.W.ki_setAt ho h0 (by omega) (by rw [List.size_toArray, ← hl]; exact h4) (by rw [hk]; exact ⟨_, I', q⟩)
  · have hk : (k + (its.toArray.size : Int)).toNat = j := by
      rw [seqIndex_neg (by omega) h3] at h1
      rw [List.size_toArray, ← hl]
      exact Option.some.inj h1
    exact PySem.W.ki_setBack ho (by omega) (by rw [List.size_toArray, ← hl]; exact h3) (by omega) (by rw [hk]; exact ⟨_, I', q⟩)
theorem slice_bounds (lo hi : Option Int) (n : Nat) : (sliceBounds lo hi none n).1 = ((HT.sIx n 0 lo : Nat) : Int) ∧ (sliceBounds lo hi none n).2.1 = ((HT.sIx n n hi : Nat) : Int) ∧ (sliceBounds lo hi none n).2.2 = 1 := by
  refine ⟨?_, ?_, rfl⟩
  · cases lo with
    | none => simp [sliceBounds, HT.sIx]
    | some i =>
      simp only [sliceBounds, HT.sIx, Option.getD_none, show (1 : Int) > 0 by decide, if_true]
      by_cases h : i < 0
      · simp only [h, if_true] <;> omega
      · simp only [h, if_false] <;> omega
  · cases hi with
    | none => simp [sliceBounds, HT.sIx]
    | some i =>
      simp only [sliceBounds, HT.sIx, Option.getD_none, show (1 : Int) > 0 by decide, if_true]
      by_cases h : i < 0
      · simp only [h, if_true] <;> omega
      · simp only [h, if_false] <;> omega
theorem slicePick_cut (its : List Value) (lo hi : Option Int) : slicePick its.toArray lo hi none = ((its.drop (HT.sIx its.length 0 lo)).take (HT.sIx its.length its.length hi - HT.sIx its.length 0 lo)).toArray := by
  obtain ⟨h1, h2, h3⟩ := slice_bounds lo hi its.toArray.size
  unfold slicePick
  rw [h1, h2, h3]
  simp only [sliceRange_one, pick_run, List.size_toArray] <;> rfl
def rSlL (K : PySem.W.Frag) : V → Option Int → Option Int → Hp → VK → Prop := fun x lo hi H Q => ∃ a xs, x = .ref a ∧ SqL K H a xs ∧ ∀ p, H p = none → Q (.ref p) (upd H p (.lst (cutV xs lo hi)))
theorem sl_list : SlR X (rSlL X.K) := by
  intro pins s σ H x v vl vu lo hi sl Q I rx hs pl pu h
  obtain ⟨a, xs, rfl, hx, q⟩ := h
  cases rx
  obtain ⟨its, r, ht, hz⟩ := I.list hx
  have hlen := r.length
  refine ⟨"list", _, slot_list_getitem.lookup, ht.isList.typeIs, ?_⟩
  refine wpAny_getItem_list_slice ht.isList hs pl pu .none (by simp) ?_ (by rw [List.size_toArray] <;> omega)
  rw [slicePick_cut, ← hlen]
  refine ⟨.ref s.heap.objs.size, _, I.laid (t' := s.toks) (o := .lst (cutV xs lo hi)) (fun b ob q => Heap.get?_push_of_some _ q) (Nat.le_refl _) ?_, rfl, q _ (I.hok.fresh (Nat.le_refl _))⟩
  exact ⟨Nat.le_trans (cutV_length xs lo hi) hz, _, 0, (r.drop (HT.sIx xs.length 0 lo)).take (HT.sIx xs.length xs.length hi - HT.sIx xs.length 0 lo), Heap.get?_push_size _ rfl⟩
theorem call_len_seq : CallR X (.builtin "len") (fun xs H Q => ∃ p ys, xs = [.ref p] ∧ (SqL X.K H p ys ∨ SqT X.K H p ys) ∧ Q (.int ys.length) H) := by
  intro pins s σ H xs us Q I r h
  obtain ⟨p, ys, rfl, hq, q⟩ := h
  obtain ⟨u, rfl, rx⟩ := vals1 r
  cases rx
  have hn := line63
  rcases hq with hq | hq
  · obtain ⟨its, r', pl, hz⟩ := I.list hq
    have hlen := r'.length
    exact Calls.call_len_list pl.isList (by simp only [List.size_toArray] <;> omega) ⟨.int ys.length, H, I.tok _, ⟨s.toks + 1, by rw [List.size_toArray, hlen]⟩, q⟩
  · obtain ⟨its, r', pl, hz⟩ := I.tuple hq
    have hlen := r'.length
    exact len_tuple pl (by simp only [List.size_toArray] <;> omega) ⟨.int ys.length, H, I.tok _, ⟨s.toks + 1, by rw [List.size_toArray, hlen]⟩, q⟩
theorem call_len_str : CallR X (.builtin "len") (fun xs H Q => ∃ z, xs = [.str z] ∧ z.length ≤ sizeLine ∧ Q (.int z.length) H) := by
  intro pins s σ H xs us Q I r h
  obtain ⟨z, rfl, hz, q⟩ := h
  obtain ⟨u, rfl, t, rfl⟩ := vals1 r
  have hn := line63
  exact len_str (by omega) ⟨.int z.length, H, I.tok _, ⟨_, rfl⟩, q⟩
theorem CallR.or {f : Value} {r r' : List V → Hp → VK → Prop} (h : CallR X f r) (h' : CallR X f r') : CallR X f (fun xs H Q => r xs H Q ∨ r' xs H Q) := by
  intro pins s σ H xs us Q I rs q
  rcases q with q | q
  · exact h pins s σ H xs us Q I rs q
  · exact h' pins s σ H xs us Q I rs q
theorem call_list_of : CallR X (.type "list") (fun xs H Q => ∃ p ys, xs = [.ref p] ∧ (SqL X.K H p ys ∨ SqT X.K H p ys) ∧ ∀ l, H l = none → Q (.ref l) (upd H l (.lst ys))) := by
  intro pins s σ H xs us Q I r h
  obtain ⟨p, ys, rfl, hq, q⟩ := h
  obtain ⟨u, rfl, rx⟩ := vals1 r
  cases rx
  have fin : ∀ (its : List Value), Vals ys its → ys.length ≤ sizeLine → ∀ (h' : Heap) (c' : Nat), (∀ b o', s.heap.get? b = some o' → h'.get? b = some o') →
      h'.get? s.heap.objs.size = some { cls := .type "list", dict := none, data := .seq its.toArray c', slots := #[] } → EP X pins σ Q (.ref s.heap.objs.size) { s with heap := h' } := fun its r' hz h' c' kp e =>
    ⟨.ref s.heap.objs.size, _, I.laid (t' := s.toks) kp (Nat.le_refl _) (show ObjOk X.prog X.w _ h' _ (.lst ys) from ⟨hz, its, c', r', e⟩), rfl, q _ (I.hok.fresh (Nat.le_refl _))⟩
  rcases hq with hq | hq
  · obtain ⟨its, r', pl, hz⟩ := I.list hq
    have hlen := r'.length
    obtain ⟨o, ho, hc, n, hd⟩ := pl.isList
    exact call_list_seq p (.inl rfl) ho hc hd (fun h' c' kp e => fin its r' hz h' c' kp e) (by simp only [List.size_toArray] <;> omega)
  · obtain ⟨its, r', pl, hz⟩ := I.tuple hq
    have hlen := r'.length
    obtain ⟨o, ho, hc, n, hd⟩ := pl
    exact call_list_seq p (.inr rfl) ho hc hd (fun h' c' kp e => fin its r' hz h' c' kp e) (by simp only [List.size_toArray] <;> omega)
theorem call_tuple_of : CallR X (.type "tuple") (fun xs H Q => ∃ p ys, xs = [.ref p] ∧ ((SqL X.K H p ys ∧ ∀ l, H l = none → Q (.ref l) (upd H l (.tup ys))) ∨ (SqT X.K H p ys ∧ Q (.ref p) H))) := by
  intro pins s σ H xs us Q I r h
  obtain ⟨p, ys, rfl, h⟩ := h
  obtain ⟨u, rfl, rx⟩ := vals1 r
  cases rx
  rcases h with ⟨hq, q⟩ | ⟨hq, q⟩
  · obtain ⟨its, r', pl, hz⟩ := I.list hq
    have hlen := r'.length
    refine call_tuple_list pl.isList (fun h' kp => ?_) (by simp only [List.size_toArray] <;> omega)
    have I1 : Inv X pins σ H { s with heap := h' } := I.kept (t' := s.toks) kp
    have I2 : Inv X pins σ (upd H h'.objs.size (.tup ys)) { s with heap := h'.push { cls := .type "tuple", data := .seq its.toArray } } :=
      I1.laid (t' := s.toks) (fun b o e => Heap.get?_push_of_some _ e) (Nat.le_refl _) (show ObjOk X.prog X.w _ _ _ (.tup ys) from ⟨hz, its, r', IsTup.new _ _⟩)
    exact ⟨.ref h'.objs.size, _, I2, rfl, q _ (I1.hok.fresh (Nat.le_refl _))⟩
  · obtain ⟨its, r', pl, hz⟩ := I.tuple hq
    exact call_tuple_same pl ⟨.ref p, H, I, rfl, q⟩
def tyV (K : PySem.W.Frag) (T : String) (x : V) (H : Hp) : Prop := match x with
  | .str _ => T = "str"
  | .int _ => T = "int"
  | .ref p => (T = "list" ∧ ∃ xs, SqL K H p xs) ∨ (T = "tuple" ∧ ∃ o, K.lookup p = some o ∧ o.cls = .type "tuple" ∧ o.dict = none) ∨
      (T = "dict" ∧ ((∃ kvs, H p = some (.dK kvs)) ∨ ∃ kvs, H p = some (.dT kvs))) ∨ (T = "set" ∧ ∃ S n, H p = some (.set S n))
  | _ => False
theorem tyV_is {pins : List (Addr × Obj)} {σ : St} {H : Hp} {s : Shared} {T : String} {x : V} {v : Value} (I : Inv X pins σ H s) (r : RelV x v) (ty : tyV X.K T x H) :
    s.TypeIs v T ∧ ∀ a, v = .ref a → ∃ ob, s.heap.get? a = some ob ∧ ob.dict = none := by
  cases x with
  | str z =>
    obtain ⟨t, rfl⟩ := r
    cases (show T = "str" from ty)
    exact ⟨typeIs_str s z t, fun _ e => nomatch e⟩
  | int i =>
    obtain ⟨t, rfl⟩ := r
    cases (show T = "int" from ty)
    exact ⟨typeIs_int s i t, fun _ e => nomatch e⟩
  | ref p =>
    cases r
    rcases ty with ⟨rfl, xs, hq⟩ | ⟨rfl, o, hk, hc, hd⟩ | ⟨rfl, hk⟩ | ⟨rfl, S, n, hk⟩
    · obtain ⟨its, _, pl, _⟩ := I.list hq
      refine ⟨pl.isList.typeIs, fun a e => ?_⟩
      cases e
      obtain ⟨o, n, e, c, hd, _⟩ := pl
      exact ⟨o, e, hd⟩
    · refine ⟨⟨o, I.kIn p o hk, hc⟩, fun a e => ?_⟩
      cases e
      exact ⟨o, I.kIn _ o hk, hd⟩
    · have z : ∃ o, s.heap.get? p = some o ∧ o.ExactDict := by
        rcases hk with ⟨kvs, hk⟩ | ⟨kvs, hk⟩
        · obtain ⟨_, _, _, _, o, _, _, e, ex, _⟩ := I.hok p _ hk
          exact ⟨o, e, ex⟩
        · obtain ⟨_, _, _, _, o, _, _, e, ex, _⟩ := I.hok p _ hk
          exact ⟨o, e, ex⟩
      obtain ⟨o, e, ex⟩ := z
      refine ⟨⟨o, e, ex.1⟩, fun a e2 => ?_⟩
      cases e2
      exact ⟨o, e, ex.2.1⟩
    · obtain ⟨o, _, _, _, e, ex, _⟩ := I.hok p _ hk
      refine ⟨⟨o, e, ex.1⟩, fun a e2 => ?_⟩
      cases e2
      exact ⟨o, e, ex.2.1⟩
  | _ => exact False.elim ty
def tBM0 (K : PySem.W.Frag) (T : String) (r : V → List V → Hp → VK → Prop) (to : TE) : TE := fun σ H Q => to σ H fun x H1 => tyV K T x H1 ∧ r x [] H1 Q
def tBM (K : PySem.W.Frag) (T : String) (r : V → List V → Hp → VK → Prop) (to : TE) (t : TA) : TE := fun σ H Q => to σ H fun x H1 => tyV K T x H1 ∧ t σ H1 fun xs H2 => r x xs H2 Q
variable {o e : Expr} {es : List Expr} {to : TE} {t : TA} {name : Str} {apos cpos : Pos} {T id : String} {r : V → List V → Hp → VK → Prop}
theorem pe_bm0 (pa : PlainAttrs T) (slot : Slot T name id) (hty : typeOf (.builtin id) = pure (.type "method_descriptor")) (hm : MtR X id r) (ho : PE X o to)
    (hbase : attributeBase o name X.env (eval o X.env) = eval o X.env := by rfl) (hline : (apos.endLine == cpos.line) = true := by rfl) : PE X (.Call (.Attribute o name apos) [] [] cpos) (tBM0 X.K T r to) := by
  intro pins s σ H Q I h
  refine wpAny_Call_method0_late hbase hline (thn (ho pins s σ H _ I h) fun v s1 ⟨x, H1, I1, r1, ty, q1⟩ => ?_)
  obtain ⟨h1, h2⟩ := tyV_is I1 r1 ty
  exact ⟨T, id, pa, slot, hty, h1, h2, Calls.callWith_builtin rfl (PySem.evalArgs_none (hm pins s1 σ H1 x [] v [] Q I1 r1 .nil q1))⟩
theorem pe_bm (pa : PlainAttrs T) (slot : Slot T name id) (hty : typeOf (.builtin id) = pure (.type "method_descriptor")) (hm : MtR X id r) (ho : PE X o to) (ha : PA X (e :: es) t)
    (hbase : attributeBase o name X.env (eval o X.env) = eval o X.env := by rfl)
    (hfew : ((backTo cpos (starEach (e :: es) X.env)).all (fun x => !x.1) && (backToKw cpos (keywordEach [] X.env)).all (fun x => x.1.isSome)
      && decide ((e :: es).length + ([] : List Keyword).length + (if ([] : List Keyword).isEmpty then 0 else 1) < 30)) = true := by rfl)
    (hline : (apos.endLine == cpos.line) = true := by rfl) (hs : starEach (e :: es) X.env = (false, eval e X.env) :: starEach es X.env := by rfl) (hplain : (backTo cpos (starEach es X.env)).any (·.1) = false := by rfl) :
    PE X (.Call (.Attribute o name apos) (e :: es) [] cpos) (tBM X.K T r to t) := by
  intro pins s σ H Q I h
  refine wpAny_Call_method_late hbase hfew hline rfl (thn (ho pins s σ H _ I h) fun v s1 ⟨x, H1, I1, r1, ty, q1⟩ => ?_)
  obtain ⟨h1, h2⟩ := tyV_is I1 r1 ty
  refine ⟨T, id, pa, slot, hty, h1, h2, ?_⟩
  have hA := ha cpos pins s1 σ H1 _ I1 q1
  rw [hs] at hA ⊢
  refine Calls.callWith_builtin (by show (false || (backTo cpos (starEach es X.env)).any (·.1)) = false; rw [hplain] <;> rfl) (Calls.evalArgs_plain ?_)
  exact thn hA fun us s2 ⟨vs, H2, I2, r2, q2⟩ => hm pins s2 σ H2 x vs v us Q I2 r1 r2 q2
/- xs.append(e), list.index on a module's tuple .. are MtR facts of 06m -/
end
end L2
namespace L2
open PySem PySem.Spec PyProof.Rows
def MtM (X : Cx) (id : String) (r : V → List V → Hp → VK → Prop) : Prop :=
  ∀ (pins : List (Addr × Obj)) (s : Shared) (σ : St) (H : Hp) (x : V) (xs : List V) (v : Value) (us : List Value) (Q : VK), Inv X pins σ H s → RelV x v → Vals xs us → r x xs H Q →
    wpAny (model X.prog X.w) X.A (call (.builtin id) (v :: us)) (EP X pins σ Q) X.xe s
theorem Vals.one : ∀ {x : V} {us : List Value}, Vals [x] us → ∃ u, us = [u] ∧ RelV x u
  | _, _, .cons r .nil => ⟨_, rfl, r⟩
theorem Vals.zero : ∀ {us : List Value}, Vals [] us → us = []
  | _, .nil => rfl
theorem Vals.dropLast {xs : List V} {us : List Value} (h : Vals xs us) : Vals xs.dropLast us.dropLast := by
  induction h with
  | nil => exact .nil
  | cons r t ih =>
    cases t with
    | nil => exact .nil
    | cons q t' => exact .cons r ih
theorem Vals.eraseIdx : ∀ {xs : List V} {us : List Value} (i : Nat), Vals xs us → Vals (xs.eraseIdx i) (us.eraseIdx i)
  | _, _, _, .nil => .nil
  | _, _, 0, .cons _ t => t
  | _, _, i + 1, .cons r t => .cons r (Vals.eraseIdx i t)
theorem Vals.reverse {xs : List V} {us : List Value} (h : Vals xs us) : Vals xs.reverse us.reverse := by
  induction h with
  | nil => exact .nil
  | cons r t ih => rw [List.reverse_cons, List.reverse_cons]; exact Vals.append ih (.cons r .nil)
theorem Vals.rep {xs : List V} {us : List Value} (h : Vals xs us) : ∀ k : Nat, Vals (List.replicate k xs).flatten (List.replicate k us).flatten
  | 0 => .nil
  | k + 1 => by
    rw [List.replicate_succ, List.replicate_succ, List.flatten_cons, List.flatten_cons]
    exact Vals.append h (Vals.rep h k)
theorem erase_last {α : Type} (l : List α) : l.eraseIdx (l.length - 1) = l.dropLast := by
  induction l with
  | nil => rfl
  | cons a r ih =>
    cases r with
    | nil => rfl
    | cons b r =>
      have e : (a :: b :: r).length - 1 = ((b :: r).length - 1) + 1 := by
        have h1 : (a :: b :: r).length = r.length + 2 := rfl
        have h2 : (b :: r).length = r.length + 1 := rfl
        omega
      rw [e, List.eraseIdx_cons_succ, ih]
      all_goals rfl
theorem len_erase {α : Type} : ∀ (l : List α) (i : Nat), (l.eraseIdx i).length ≤ l.length
  | [], _ => Nat.le_refl _
  | _ :: _, 0 => Nat.le_succ _
  | _ :: r, i + 1 => Nat.succ_le_succ (len_erase r i)
theorem foldl_rep (its : List Value) : ∀ (k : Nat) (acc : List Value),
    List.foldl (fun x1 x2 => x1 ++ x2) acc.toArray (List.replicate k its.toArray) = (acc ++ (List.replicate k its).flatten).toArray
  | 0, acc => by simp
  | k + 1, acc => by
    have e : acc.toArray ++ its.toArray = (acc ++ its).toArray := by simp
    have e2 : (acc ++ its) ++ (List.replicate k its).flatten = acc ++ (List.replicate (k + 1) its).flatten := by
      rw [List.replicate_succ, List.flatten_cons, List.append_assoc]
    rw [← e2, ← foldl_rep its k (acc ++ its), ← e, List.replicate_succ, List.foldl_cons]
section
variable {X : Cx} {pins : List (Addr × Obj)} {σ : St} {H : Hp} {s : Shared} {l b : Addr} {xs ys zs : List V}
theorem Inv.lset {its its' : List Value} {n : Nat} {f : Array Value → Array Value} {t' : Nat} (I : Inv X pins σ H s) (hH : H l = some (.lst xs))
    (e : s.heap.get? l = some { cls := .type "list", data := .seq its.toArray n }) (hf : f its.toArray = its'.toArray) (hv : Vals ys its') (hz : ys.length ≤ sizeLine) :
    Inv X pins σ (upd H l (.lst ys)) { s with heap := s.heap.update l (Obj.mapSeq f), toks := t' } := by
  have q := PySem.IsL.update e f
  rw [hf] at q
  refine I.write (x := l) (e := l) (by rw [hH]; exact trivial) (.inl rfl) (fun b' u hb hu => (Heap.get?_update_other s.heap (Obj.mapSeq f) (Ne.symm hb)).trans hu) ⟨_, q⟩ ?_
  exact ⟨hz, its', _, hv, q⟩
theorem Inv.lnew {its : List Value} {t' : Nat} (I : Inv X pins σ H s) (hv : Vals ys its) (hz : ys.length ≤ sizeLine) :
    Inv X pins σ (upd H s.heap.objs.size (.lst ys)) { s with heap := s.heap.push { cls := .type "list", data := .seq its.toArray }, toks := t' } :=
  I.laid (fun _ _ q => Heap.get?_push_of_some _ q) (Nat.le_refl _) ⟨hz, its, 0, hv, Heap.get?_push_size _ rfl⟩
theorem Inv.fresh (I : Inv X pins σ H s) : H s.heap.objs.size = none := I.hok.fresh (Nat.le_refl _)
theorem Inv.lstM (I : Inv X pins σ H s) (hH : H l = some (.lst xs)) : xs.length ≤ sizeLine ∧ ∃ (its : List Value) (n : Nat), Vals xs its ∧ xs.length = its.length ∧ s.heap.get? l = some { cls := .type "list", data := .seq its.toArray n } := by
  obtain ⟨z, its, n, r, e⟩ := I.hok l _ hH
  exact ⟨z, its, n, r, r.length, e⟩
theorem notLongL {n : Nat} (h : n ≤ sizeLine) : Builtin.List.listTooLong n = false := by
  unfold Builtin.List.listTooLong
  exact decide_eq_false (by omega)
end
section
variable {X : Cx}
def rAppend : V → List V → Hp → VK → Prop := fun x vs H Q => ∃ l xs y, x = .ref l ∧ vs = [y] ∧ H l = some (.lst xs) ∧ xs.length < sizeLine ∧ Q .non (upd H l (.lst (xs ++ [y])))
theorem mt_append : MtM X "list.append" rAppend := by
  intro pins s σ H x vs v us Q I rx rv h
  obtain ⟨l, xs, y, rfl, rfl, hH, hz, q⟩ := h
  cases rx
  obtain ⟨u, rfl, ru⟩ := rv.one
  obtain ⟨z, its, n, r, hl, e⟩ := I.lstM hH
  refine call_meets F.slot_list_append ⟨_, e, rfl⟩ F.entry_list_append (F.args_list_append_2 _ _) (PySem.list_append l its.toArray n u (by rw [List.size_toArray]; omega)) ⟨e, ?_⟩
  refine ⟨.non, _, I.lset (its' := its ++ [u]) hH e (by simp) (r.append (.cons ru .nil)) ?_, rfl, q⟩
  rw [List.length_append, List.length_singleton]
  omega
def rExtend : V → List V → Hp → VK → Prop := fun x vs H Q => ∃ l b xs zs, x = .ref l ∧ vs = [.ref b] ∧ H l = some (.lst xs) ∧ H b = some (.lst zs) ∧ xs.length + zs.length ≤ sizeLine ∧ Q .non (upd H l (.lst (xs ++ zs)))
theorem mt_extend : MtM X "list.extend" rExtend := by
  intro pins s σ H x vs v us Q I rx rv h
  obtain ⟨l, b, xs, zs, rfl, rfl, hH, hB, hz, q⟩ := h
  cases rx
  obtain ⟨u, rfl, ru⟩ := rv.one
  cases ru
  obtain ⟨z, its, n, r, hl, e⟩ := I.lstM hH
  obtain ⟨z2, its2, n2, r2, hl2, e2⟩ := I.lstM hB
  have hsz : its.toArray.size + its2.toArray.size ≤ sizeLine := by rw [List.size_toArray, List.size_toArray]; omega
  have hlong : ¬ (!its.toArray.isEmpty && Builtin.List.listTooLong (its.toArray.size + its2.toArray.size)) = true := by
    rw [notLongL hsz, Bool.and_false]
    exact Bool.false_ne_true
  refine call_meets F.slot_list_extend ⟨_, e, rfl⟩ F.entry_list_extend (F.args_list_extend_2 _ _)
    (AutoSeq1.list_extend_list_list_0 l its.toArray n b its2.toArray n2 hlong (by rw [List.size_toArray]; omega) (by omega)) ⟨e, e2, ?_⟩
  refine ⟨.non, _, I.lset (its' := its ++ its2) hH e (by simp) (r.append r2) ?_, rfl, q⟩
  rw [List.length_append]
  omega
def rPop : V → List V → Hp → VK → Prop := fun x vs H Q => ∃ l xs y, x = .ref l ∧ vs = [] ∧ H l = some (.lst xs) ∧ xs[xs.length - 1]? = some y ∧ Q y (upd H l (.lst xs.dropLast))
theorem mt_pop : MtM X "list.pop" rPop := by
  intro pins s σ H x vs v us Q I rx rv h
  obtain ⟨l, xs, y, rfl, rfl, hH, hy, q⟩ := h
  cases rx
  have hus := rv.zero
  subst hus
  obtain ⟨z, its, n, r, hl, e⟩ := I.lstM hH
  obtain ⟨u, hu, ru⟩ := r.get hy
  have hy' : its.toArray[its.toArray.size - 1]? = some u := by
    show its.toArray[its.length - 1]? = some u
    rw [← Array.getElem?_toList, ← hl]
    exact hu
  refine call_meets F.slot_list_pop ⟨_, e, rfl⟩ F.entry_list_pop (F.args_list_pop_1 _) (MeetsSeq.list_pop_last l its.toArray n u hy' (by rw [List.size_toArray]; omega)) ⟨e, ?_⟩
  refine ⟨y, _, I.lset (its' := its.dropLast) hH e ?_ r.dropLast ?_, ru, q⟩
  · show its.toArray.eraseIdxIfInBounds (its.toArray.size - 1) = its.dropLast.toArray
    rw [List.size_toArray, List.eraseIdxIfInBounds_toArray, erase_last]
  · rw [List.length_dropLast]
    omega
def rPopAt : V → List V → Hp → VK → Prop := fun x vs H Q => ∃ l xs i k y, x = .ref l ∧ vs = [.int i] ∧ H l = some (.lst xs) ∧ -(2 ^ 63) ≤ i ∧ i < 2 ^ 63 ∧ seqIndex? i xs.length = some k ∧ xs[k]? = some y ∧ Q y (upd H l (.lst (xs.eraseIdx k)))
theorem mt_popAt : MtM X "list.pop" rPopAt := by
  intro pins s σ H x vs v us Q I rx rv h
  obtain ⟨l, xs, i, k, y, rfl, rfl, hH, h1, h2, hk, hy, q⟩ := h
  cases rx
  obtain ⟨u, rfl, ru⟩ := rv.one
  obtain ⟨t, rfl⟩ := ru
  obtain ⟨z, its, n, r, hl, e⟩ := I.lstM hH
  obtain ⟨w, hw, rw'⟩ := r.get hy
  refine call_meets F.slot_list_pop ⟨_, e, rfl⟩ F.entry_list_pop (F.args_list_pop_2 _ _)
    (MeetsSeq.list_pop_at l its.toArray n i t k w (fitsIndex_both h1 h2) (by rw [List.size_toArray, ← hl]; exact hk) (by rw [← Array.getElem?_toList]; exact hw) (by rw [List.size_toArray]; omega)) ⟨e, ?_⟩
  refine ⟨y, _, I.lset (its' := its.eraseIdx k) hH e ?_ (r.eraseIdx k) ?_, rw', q⟩
  · show its.toArray.eraseIdxIfInBounds k = (its.eraseIdx k).toArray
    rw [List.eraseIdxIfInBounds_toArray]
  · have := len_erase xs k
    omega
def rReverse : V → List V → Hp → VK → Prop := fun x vs H Q => ∃ l xs, x = .ref l ∧ vs = [] ∧ H l = some (.lst xs) ∧ Q .non (upd H l (.lst xs.reverse))
theorem mt_reverse : MtM X "list.reverse" rReverse := by
  intro pins s σ H x vs v us Q I rx rv h
  obtain ⟨l, xs, rfl, rfl, hH, q⟩ := h
  cases rx
  have hus := rv.zero
  subst hus
  obtain ⟨z, its, n, r, hl, e⟩ := I.lstM hH
  refine call_meets F.slot_list_reverse ⟨_, e, rfl⟩ F.entry_list_reverse (F.args_list_reverse_1 _) (AutoSeq1.list_reverse_list_0 l its.toArray n (by rw [List.size_toArray]; omega)) ⟨e, ?_⟩
  refine ⟨.non, _, I.lset (its' := its.reverse) hH e (by simp) r.reverse ?_, rfl, q⟩
  rw [List.length_reverse]
  omega
def rRep : R2 := fun x y H Q => ∃ l k xs, x = .ref l ∧ y = .int k ∧ H l = some (.lst xs) ∧ -(2 ^ 63) ≤ k ∧ k < 2 ^ 63 ∧ xs.length * k.toNat ≤ sizeLine ∧
  ∀ p, H p = none → Q (.ref p) (upd H p (.lst (List.replicate k.toNat xs).flatten))
theorem len_rep {α : Type} (xs : List α) (k : Nat) : (List.replicate k xs).flatten.length = k * xs.length := by
  induction k with
  | zero => simp
  | succ k ih => rw [List.replicate_succ, List.flatten_cons, List.length_append, ih, Nat.succ_mul, Nat.add_comm]
theorem op_rep : OpR X (binaryOp .Mult) rRep := by
  intro pins s σ H x y v u Q I rx ry h
  obtain ⟨l, k, xs, rfl, rfl, hH, h1, h2, hz, q⟩ := h
  cases rx
  obtain ⟨t, rfl⟩ := ry
  obtain ⟨z, its, n, r, hl, e⟩ := I.lstM hH
  have hlen : its.toArray.size * k.toNat ≤ sizeLine := by rw [List.size_toArray, ← hl]; exact hz
  have hcap : ¬ its.toArray.size * k.toNat > (2 ^ 63 - 1) / 8 := by
    have : (sizeLine : Nat) ≤ (2 ^ 63 - 1) / 8 := by decide
    omega
  have hfit : ¬ (!Builtin.List.listFitsIndex k) = true := by
    rw [fitsIndex_both h1 h2]
    exact Bool.false_ne_true
  have hlong : ¬ Builtin.List.listTooLong (its.toArray.size * k.toNat) = true := by
    rw [notLongL hlen]
    exact Bool.false_ne_true
  have hnew : List.foldl (fun x1 x2 => x1 ++ x2) #[] (List.replicate (if its.toArray.isEmpty = true then 0 else k.toNat) its.toArray) = (List.replicate k.toNat its).flatten.toArray := by
    have f0 : ∀ m : Nat, List.foldl (fun x1 x2 => x1 ++ x2) #[] (List.replicate m its.toArray) = (List.replicate m its).flatten.toArray := fun m => by
      have := foldl_rep its m []
      rw [List.nil_append] at this
      exact this
    rw [f0]
    cases its with
    | nil => simp
    | cons a r' => rw [if_neg (by simp)]
  refine wpAny_binaryOp_repeat_ref (T := "list") (U := "int") (by decide) ⟨_, e, rfl⟩ (fun s' => typeIs_int s' k t) noFill_list_mul F.fills_int_mul F.slot_int_rmul repeat_list F.slot_int_index.lookup
    (call_meets F.slot_int_rmul (typeIs_int s k t) F.entry_int_rmul (F.args_int_rmul_2 _ _) (int___rmul___int_list k t l its.toArray n)
      ⟨e, rfl, ⟨_, e, rfl⟩, call_meets F.slot_list_mul ⟨_, e, rfl⟩ F.entry_list_mul (F.args_list_mul_2 _ _) (AutoListH.list___mul___list_int_3 l its.toArray n k t hfit hcap hlong) ⟨e, ?_⟩⟩)
  rw [hnew]
  exact ⟨.ref _, _, I.lnew (t' := s.toks) (r.rep k.toNat) (by rw [len_rep, Nat.mul_comm]; exact hz), rfl, q _ I.fresh⟩
end
section
variable {prog : Program} {w : World} {A : Around} {E : Value → Shared → Prop} {s : Shared}
end
section
variable {X : Cx}
end
end L2
namespace Att
open PySem PySem.W PySem.Calls PyProof.Rows
theorem ints_of_wellAll {P : Params} {h : Heap} : ∀ (ns : List Int) (vs : List Value), WellAll P h vs (ns.map WData.int) → IntsAre vs ns := by
  intro ns
  induction ns with
  | nil =>
    intro vs w
    rw [List.map_nil] at w
    cases w
    exact .nil
  | cons n ns ih =>
    intro vs w
    rw [List.map_cons] at w
    cases w with
    | cons a b =>
      cases a
      exact .cons _ _ (ih _ b)
theorem script_of {l : OpenLaw} {n : Nat} (hn : l.most = some n) {P : Params} {h : Heap} {args : List WData} {vals : List Value}
    (hpre : l.row.toRowW.claim.pre args = true) (hwl : WellAll P h vals args) :
    ∃ a vs ns, vals = [Value.ref a] ∧ args = [WData.list (ns.map WData.int)] ∧ h.get? a = some { cls := .type "list", data := .seq vs.toArray } ∧ IntsAre vs ns ∧ ns.length ≤ n := by
  have hsh : WShape.hasAll [] args [.list .int] = true := (pre_splitW hpre).1
  have hc : l.pre.holds [] { args := args } = true := (pre_splitW hpre).2
  obtain ⟨d, r, rfl, h1, h2⟩ := hasAllW_cons hsh
  obtain rfl := hasAllW_nil h2
  obtain ⟨xs, rfl, h3⟩ := hasW_list h1
  obtain ⟨ns, rfl⟩ := items_int h3
  have hlen : ns.length ≤ n := by
    unfold OpenLaw.pre at hc
    have h4 : (WTm.not (.lt (.lit (.int (n : Int))) (.len (.arg 0)))).holds [] { args := [.list (ns.map .int)] } = true := by
      have h4 := (holds_andW hc).1
      rw [hn] at h4
      exact h4
    have h5 := condW_of h4 (w_not (w_lt w_lit (w_len_list (w_arg rfl))))
    rw [List.length_map] at h5
    refine Nat.le_of_not_lt fun q => ?_
    have q' : (n : Int) < ((ns.length : Nat) : Int) := by omega
    first
      | (rw [decide_eq_true q'] at h5; exact absurd h5 (by decide))
      | (simp at h5; omega)
  cases hwl with
  | cons w1 w2 =>
    cases w2
    cases w1 with
    | list ho hall => exact ⟨_, _, ns, rfl, rfl, ho, ints_of_wellAll ns _ hall, hlen⟩
theorem post_true (l : OpenLaw) (args : List WData) : l.row.toRowW.claim.post args (.bool true) args = true :=
  postW_of (r := l.row.toRowW) (X := (true == true))
    (show WShape.has [] (.bool true) .bool = true by first | rfl | decide | simp [WShape.has, WShape.arms, WShape.armsAll])
    (show (WTm.eq .res (.lit (.bool true))).value [] { args := args, res := some (.bool true), after := args } = some (.bool (true == true)) from w_eq_bool (w_res rfl) w_lit) rfl
theorem attach_call {l : OpenLaw} {n : Nat} {q : Program} {loose : List Str} {XP : (Str → Option Value) → Heap → Prop} {YP : World → Heap → Prop} {d : DefRec}
    (hn : l.most = some n) (hdf : d.params.defaults = [])
    (call : ∀ (w : World) (s₀ s₁ : Shared) (mg mb : Str → Option Value) (fa : Addr) (o : Obj) (pm cd doc : Value) (a : Addr) (vs : List Value) (ns : List Int),
      Ground q loose [] XP w s₀ mg mb s₁.heap → YP w s₁.heap →
      s₁.heap.get? fa = some o → o.data = .func (docDef d.name d.params d.body d.scope pm cd doc) → s₁.heap.CodeRec cd d.name → mg d.name = some (.ref fa) →
      s₁.heap.get? a = some { cls := .type "list", data := .seq vs.toArray } → IntsAre vs ns → ns.length ≤ n → s₁.gens = #[] →
      codeAny (model l.prog w) callerA (.call (.ref fa) ⟨[.ref a], []⟩) (fun r s' => r = .ok (.ret (.bool true)) ∧ OldK s₁.heap s'.heap ∧ s'.os = s₁.os ∧ AllBare s'.gens) s₁) :
    WalkO q loose XP YP l.row.toRowW d [] (fun f vs => PySem.call f vs) := by
  intro w s₀ s₁ mg mb G Y fa o pm cd doc dV kV ho hd hcd hD hmg hg args vals as hpre hlay hrd hwl hlo
  obtain rfl : dV = .none := Dflts.none hD hdf
  obtain rfl : kV = .none := Dflts.noKw hD
  obtain ⟨a, vs, ns, rfl, rfl, hobj, hints, hlen⟩ := script_of hn hpre hwl
  refine enter_call (codeAny_mono (call w s₀ s₁ mg mb fa o pm cd doc a vs ns G Y ho (fd_plain hd) hcd hmg hobj hints hlen hg) fun r s' hq => ?_)
  obtain ⟨rfl, h2, h3, h4⟩ := hq
  exact ⟨.inl ⟨.bool true, .bool true, [], rfl, fun _ => rfl, .bool true, post_true l _, fun _ => ⟨List.Pairwise.nil, fun _ hm => (nomatch hm)⟩⟩, h2, h3, h4⟩
section
variable {prog : Program} {w : World} {A : Around} {E : Value → Shared → Prop} {s : Shared} {K : Frag}
end
end Att
namespace L2
open PySem PySem.Spec PyProof.Rows
theorem vals_ints : ∀ {vs : List Value} {ns : List Int}, IntsAre vs ns → Vals (ns.map V.int) vs
  | _, _, .nil => .nil
  | _, _, .cons n t h => .cons ⟨t, rfl⟩ (vals_ints h)
def Only (H : Hp) : Prop := ∀ b, H b = none ∨ ∃ o xs, H b = some (.frz o (.lst xs))
theorem law_call {P : Program} {w : World} {K : PySem.W.Frag} {mg mb : Str → Option Value} {CX : CXT} {k : Nat} {fa a : Addr} {fd : FuncData} {x : Str} {sp : Sp} {s₁ : Shared} {vs : List Value} {ns : List Int}
    (KX : K.In s₁.heap) (hns : s₁.heap.Ns mainGlobals mg) (hb : s₁.heap.Ns builtinsNs mb) (hbb : ∀ x : Str, x ≠ "__name__" → mb x = bootBuiltins x) (hlim : s₁.heap.NoLimit) (hg : s₁.gens = #[])
    (ha : s₁.heap.get? a = some { cls := .type "list", data := .seq vs.toArray }) (hi : IntsAre vs ns) (hl : ns.length ≤ sizeLine) (hr : Room k callerA)
    (F : ∀ base : Heap, K.In base → base.Ns mainGlobals mg → FnOk P w K mg base CX k fa fd [x] sp) (hbind : ∀ (s : Shared) (u : Value), BindsTo s fd ⟨[u], []⟩ [(x, u)])
    (hsp : ∀ H : Hp, Only H → SqL K H a (ns.map V.int) → sp [.ref a] H (fun v _ => v = .bl true) fun _ _ _ => False)
    (hCX : ∀ H e s', CX [] H s₁ (fun _ _ _ => False) e s' → False) :
    codeAny (model P w) callerA (.call (.ref fa) ⟨[.ref a], []⟩) (fun r s' => r = .ok (.ret (.bool true)) ∧ OldK s₁.heap s'.heap ∧ s'.os = s₁.os ∧ AllBare s'.gens) s₁ := by
  have rv := vals_ints hi
  have lenV := hi.length
  have core : ∀ H : Hp, Only H → SqL K H a (ns.map V.int) → HOk P w H s₁.heap → (∀ b, H b ≠ none → b = a) → (H a ≠ none → K.lookup a = none) →
      codeAny (model P w) callerA (.call (.ref fa) ⟨[.ref a], []⟩) (fun r s' => r = .ok (.ret (.bool true)) ∧ OldK s₁.heap s'.heap ∧ s'.os = s₁.os ∧ AllBare s'.gens) s₁ := by
    intro H hO hS hok hA hK
    have base_of : ∀ {b : Addr} {o : Obj}, s₁.heap.get? b = some o → H b = none → (hidT s₁.heap H).get? b = some o := fun e n => hidT_get e n
    have noA : ∀ {b : Addr} {o : Obj} {es : Array DictEntry} {ep : Nat}, s₁.heap.get? b = some o → o.data = .dict es ep → H b = none := fun {b o es ep} e d => by
      cases q : H b with
      | none => rfl
      | some u =>
        have e' : b = a := hA b (by rw [q]; simp)
        subst e'
        rw [ha] at e; cases e
        have d' : Data.seq vs.toArray _ = Data.dict es ep := d
        cases d'
    have nsK : ∀ {b : Addr} {m : Str → Option Value}, s₁.heap.Ns b m → (hidT s₁.heap H).Ns b m := fun {b m} ⟨o, es, ep, e, d, r⟩ => ⟨o, es, ep, base_of e (noA e d), d, r⟩
    have hKb : K.In (hidT s₁.heap H) := fun b o e => base_of (KX b o e) (by
      cases q : H b with
      | none => rfl
      | some u =>
        have e' : b = a := hA b (by rw [q]; simp)
        subst e'
        rw [hK (by rw [q]; simp)] at e; cases e)
    have hM : Mod K mg (hidT s₁.heap H) := ⟨hKb, nsK hns, ⟨mb, nsK hb, hbb⟩, let ⟨mc, h1, h2⟩ := hlim; ⟨mc, nsK h1, h2⟩⟩
    have e0 : Env0 P w K mg (hidT s₁.heap H) callerA [] s₁ H := ⟨rfl, hM, fun b o e => of_hidT e, Nat.le_of_eq (hidT_size _ _), trivial, fun b hb => absurd (show b ∈ ([] : List Addr) from hb) (by simp), hok, .of_eq hg⟩
    refine codeAny_mono ((F _ hKb (nsK hns)).run callerA [] s₁ H ⟨[.ref a], []⟩ [.ref a] [.ref a] _ _ hr e0 (hbind s₁ (.ref a)) (.cons rfl .nil) (hsp H hO hS)) fun r s' h => ?_
    cases r with
    | error e => exact (hCX H e s' h).elim
    | ok fl =>
      cases fl with
      | next => exact False.elim h
      | brk => exact False.elim h
      | cont => exact False.elim h
      | ret u =>
        obtain ⟨v, H', os, bare, un, hok', r', q⟩ := h
        have q' : v = .bl true := q
        subst q'
        obtain rfl : u = Value.bool true := r'
        refine ⟨rfl, OldK.of_keep fun b o e => ?_, os, bare⟩
        cases q : H b with
        | none => exact un.keep b o e q (by intro z; exact absurd (show b ∈ ([] : List Addr) from z) (by simp)) (by simp)
        | some u =>
          rcases hO b with z | ⟨ob, xs, z⟩
          · rw [q] at z; cases z
          · have z2 := un.frzs b ob _ z
            obtain ⟨e1, _⟩ := hok b _ z
            obtain ⟨e2, _⟩ := hok' b _ z2
            rw [e] at e1; cases e1
            exact e2
  cases hk : K.lookup a with
  | some o =>
    have e := KX a o hk
    rw [ha] at e
    cases e
    refine core (fun _ => none) (fun _ => .inl rfl) (.inr ⟨_, vs.toArray, _, hk, rfl, rfl, rfl, by rw [List.size_toArray, lenV]; exact hl, by simpa using rv⟩) (fun b u z => by have z' : (none : Option HO) = some u := z; cases z') (fun b z => absurd rfl z) fun z => absurd rfl z
  | none =>
    refine core (fun b => if b = a then some (.frz { cls := .type "list", data := .seq vs.toArray } (.lst (ns.map V.int))) else none) (fun b => ?_) (.inl (.inr ⟨{ cls := .type "list", data := .seq vs.toArray }, if_pos rfl⟩)) (fun b u z => ?_) (fun b z => ?_) fun _ => hk
    · by_cases hb : b = a
      · exact .inr ⟨_, _, if_pos hb⟩
      · exact .inl (if_neg hb)
    · by_cases hb : b = a
      · have z' := (if_pos hb).symm.trans z
        cases z'
        subst hb
        exact ⟨ha, by rw [List.length_map]; exact hl, vs, _, rv, ha⟩
      · have z' := (if_neg hb).symm.trans z
        cases z'
    · by_cases hb : b = a
      · exact hb
      · exact absurd (if_neg hb) z
end L2
namespace L2
open PySem PySem.Spec PyProof.Rows
abbrev KOf {K : PySem.W.Frag} {h : Heap} (_ : K.In h) : PySem.W.Frag := K
theorem walk_of {l : PySem.W.OpenLaw} {n k : Nat} {q : Program} {loose : List Str} {XP : (Str → Option Value) → Heap → Prop} {YP : World → Heap → Prop} {d : DefRec} {K : Params → PySem.W.Frag} {CX : World → CXT} {sp : World → Sp} {x : Str}
    (hn : l.most = some n) (hn2 : n ≤ sizeLine) (hdf : d.params.defaults = []) (hr : Room k callerA)
    (hY : ∀ (w : World) (h : Heap), YP w h → (K w.params).In h)
    (F : ∀ (w : World) (mg : Str → Option Value) (fa : Addr) (h : Heap), (K w.params).In h → h.Ns mainGlobals mg → mg d.name = some (.ref fa) →
      ∃ fd : FuncData, (∀ (s : Shared) (u : Value), BindsTo s fd ⟨[u], []⟩ [(x, u)]) ∧
        ∀ base : Heap, (K w.params).In base → base.Ns mainGlobals mg → FnOk l.prog w (K w.params) mg base (CX w) k fa fd [x] (sp w))
    (hsp : ∀ (w : World) (H : Hp) (a : Addr) (ns : List Int), ns.length ≤ n → Only H → SqL (K w.params) H a (ns.map V.int) → sp w [.ref a] H (fun v _ => v = .bl true) fun _ _ _ => False)
    (hCX : ∀ (w : World) (H : Hp) (s : Shared) (e : Value) (s' : Shared), CX w [] H s (fun _ _ _ => False) e s' → False) :
    PySem.W.WalkO q loose XP YP l.row.toRowW d [] (fun f vs => PySem.call f vs) := by
  refine Att.attach_call hn hdf fun w s₀ s₁ mg mb fa o pm cd doc a vs ns G Y ho hd hcd hmg hobj hints hlen hg => ?_
  have KX := hY w _ Y
  obtain ⟨fd, hb, hF⟩ := F w mg fa _ KX G.T.g hmg
  exact law_call KX G.T.g G.T.b G.T.builtins G.T.nolimit hg hobj hints (Nat.le_trans hlen hn2) hr hF hb (fun H hO hS => hsp w H a ns hlen hO hS) fun H e s' => hCX w H s₁ e s'
end L2
/- THE LAST THEOREM (shape; LID, My.* are yours):
   My.Adr: a structure of the addresses that your layer names (classes, functions); My.Txt K t: a structure (Prop) of the equations over K;
   My.txt_mk : {K} {implicit addresses ..} (e1 : nsIn K mainGlobals "law" = some (some (.ref f))) (e2 : K.lookup f = some ⟨oc, od, .func (fnOf "law" "law" params body scope dV kV doc pm an cdv ct), sl⟩) (e3 : codeIn K cdv "law" = true) .. : ∃ t, My.Txt K t
set_option maxRecDepth 100000 in
set_option maxHeartbeats 0 in
theorem PySem.Challenge.cw_LID_holds : PySem.Challenge.rw_LID.Holds := by
  w_on; o_law; k_head; (case hw => w_witness2)
  k_fill
  refine L2.walk_of (l := PySem.Challenge.rw_LID) (n := 63) (k := 40) (x := "script") (CX := fun w => ..) (sp := fun _ => My.sp_law) rfl (by decide) rfl ⟨rfl, by decide, by decide⟩ (fun w h Y => PySem.W.kIn_of Y) ?F ?S ?C
  case F =>
    intro w mg fa h KX G hmg
    have T : ∃ t, My.Txt (L2.KOf KX) t := by
      dsimp only [L2.KOf]                          -- K must stand as «<heap const> w.params» for k_is
      refine' My.txt_mk ?e1 ?e2 ?e3 ..
      (case e1 => PySem.W.k_is)                    -- in the order: a name -> its address -> its object -> its parts
      (case e2 => PySem.W.k_is)
      ..
    obtain ⟨t, T⟩ := T
    have e0 := hmg.symm.trans (PySem.W.mg_of KX G T.law)
    cases e0                                       -- fa is the law's own address
    exact ⟨_, fun s u => .of_eq rfl, fun base kb nb => My.law_fn T kb nb⟩     -- if «.of_eq rfl» comes too early: refine' ⟨_, ?b, fun base kb nb => My.law_fn T kb nb⟩; exact fun s u => .of_eq rfl
  case S => exact fun w H a ns hl hO hS => ..
  case C => exact ..
(the tactic k_is has no namespace: write k_is) -/
namespace L2
open PySem PySem.Spec PyProof.Rows
def defArgs (s : Stmt) : Arguments := match s with
  | .FunctionDef _ a _ _ _ _ _ _ _ _ => a
  | _ => { posonlyargs := [], args := [], vararg := none, kwonlyargs := [], kw_defaults := [], kwarg := none, defaults := [] }
def defBody (s : Stmt) : List Stmt := match s with
  | .FunctionDef _ _ b _ _ _ _ _ _ _ => b
  | _ => []
def defScope (s : Stmt) : Scope := match s with
  | .FunctionDef _ _ _ _ _ _ sc _ _ _ => sc
  | _ => { kind := .function, names := [], isGenerator := false, isCoroutine := false }
abbrev CX0 : CXT := fun _ _ _ _ _ _ => False
abbrev E0 : XK := fun _ _ _ => False
theorem pass0 {X : Cx} : Passes CX0 X E0 := fun _ _ _ _ _ _ _ h => h.elim
structure Fun (K : PySem.W.Frag) (x qual : Str) (st : Stmt) (f : Addr) (fd : FuncData) : Prop where
  ex : ∃ (oc : Value) (od : Option Addr) (kV doc pm : Value) (an : Option Addr) (cdv ct : Value) (osl : Array (Option Value)),
    fd = PySem.W.fnOf x qual (defArgs st) (defBody st) (defScope st) .none kV doc pm an cdv ct ∧ K.lookup f = some ⟨oc, od, .func fd, osl⟩ ∧ PySem.W.codeIn K cdv qual = true
  kp : PySem.W.keepIn K (.ref f) = true
section
variable {P : Program} {w : World} {K : PySem.W.Frag} {mg : Str → Option Value} {base : Heap}
theorem Fun.ok {x qual : Str} {st : Stmt} {f : Addr} {fd : FuncData} {N ps : List Str} {k : Nat} {sp : Sp} (F : Fun K x qual st f fd) (S : FnScope N ps (defScope st)) (len : ∀ vs H Q E, sp vs H Q E → vs.length = ps.length)
    (hbody : ∀ (cdv : Value) (A : Around) (outer : List Env) (s : Shared) (H : Hp) (vs : List V) (Q : VK) (E : XK), Room k (A.deeper (envOfC qual (defScope st) s.heap.objs.size f cdv)) → sp vs H Q E →
      ∃ t, PSs (cxOf CX0 P w K mg base N qual (defScope st) f cdv A outer s H E).nox (defBody st) t ∧ t { nx := fun _ H' => Q .non H', rt := Q } (start N vs) H) : FnOk P w K mg base CX0 (k + 1) f fd ps sp := by
  obtain ⟨oc, od, kV, doc, pm, an, cdv, ct, osl, rfl, lk, hcd⟩ := F.ex
  refine fn_of lk hcd S len fun A outer s H vs Q E hr hsp => ?_
  obtain ⟨t, h, q⟩ := hbody cdv A outer s H vs Q E hr hsp
  exact ⟨t, h.nox, q⟩
theorem Fun.binds {x qual : Str} {st : Stmt} {f : Addr} {fd : FuncData} {ps : List Str} (F : Fun K x qual st f fd)
    (h : ∀ (kV doc pm : Value) (an : Option Addr) (cdv ct : Value) (us : List Value), us.length = ps.length → bindArgs (PySem.W.fnOf x qual (defArgs st) (defBody st) (defScope st) .none kV doc pm an cdv ct) ⟨us, []⟩ = pure (ps.zip us)) : Binds K fd ps [] := by
  obtain ⟨oc, od, kV, doc, pm, an, cdv, ct, osl, rfl, lk, hcd⟩ := F.ex
  exact .all (h kV doc pm an cdv ct)
theorem fun_mk {x qual : Str} {st : Stmt} {f : Addr} {oc : Value} {od an : Option Addr} {osl : Array (Option Value)} {kV doc pm cdv ct : Value} (l : K.lookup f = some ⟨oc, od, .func (PySem.W.fnOf x qual (defArgs st) (defBody st) (defScope st) .none kV doc pm an cdv ct), osl⟩)
    (c : PySem.W.codeIn K cdv qual = true) (k : PySem.W.keepIn K (.ref f) = true) : Fun K x qual st f (PySem.W.fnOf x qual (defArgs st) (defBody st) (defScope st) .none kV doc pm an cdv ct) := ⟨⟨oc, od, kV, doc, pm, an, cdv, ct, osl, rfl, l, c⟩, k⟩
end
section
variable {X : Cx}
end
theorem iteF {A B : Prop} (h : B) : if false = true then A else B := by
  rw [if_neg Bool.false_ne_true]
  exact h
theorem iteT {A B : Prop} (h : A) : if true = true then A else B := by
  rw [if_pos rfl]
  exact h
def Same (H H' : Hp) : Prop := ∀ b o, H b = some o → H' b = some o
theorem Same.refl (H : Hp) : Same H H := fun _ _ h => h
theorem Same.trans {H H1 H2 : Hp} (a : Same H H1) (b : Same H1 H2) : Same H H2 := fun c o h => b c o (a c o h)
theorem Same.free {H H' : Hp} (e : Same H H') {l : Addr} (h : H' l = Option.none) : H l = Option.none := by
  cases q : H l with
  | none => rfl
  | some o =>
    rw [e l o q] at h
    cases h
theorem Same.seq {K : PySem.W.Frag} {H H' : Hp} {a : Addr} {xs : List V} (e : Same H H') (h : SqL K H a xs) : SqL K H' a xs := by
  rcases h with (h | ⟨o, h⟩) | h
  · exact .inl (.inl (e _ _ h))
  · exact .inl (.inr ⟨o, e _ _ h⟩)
  · exact .inr h
section
variable {κ : Type} [DecidableEq κ]
end
end L2
namespace L2.CF
open PySem PySem.Spec PyProof.Rows
variable {K : PySem.W.Frag}
inductive D where
  | non | bl (b : Bool) | int (i : Int) | str (x : Str) | tup (l : List D) | lst (l : List D) | dct (l : List (Key × D))
  | exc (c : Str)
  | ptr (a : Addr)
  | any
abbrev Le (G G' : Hp) : Prop := ∀ b o, G b = some o → G' b = some o
theorem Le.refl (G : Hp) : Le G G := fun _ _ h => h
theorem rd_mono {G G' : Hp} (l : Le G G') {a : Addr} {u : HO} (h : Rd G a u) : Rd G' a u := h.elim (fun e => .inl (l _ _ e)) fun ⟨o, e⟩ => .inr ⟨o, l _ _ e⟩
theorem sqT_mono {K : PySem.W.Frag} {G G' : Hp} (l : Le G G') {a : Addr} {vs : List V} (h : SqT K G a vs) : SqT K G' a vs := h.elim (fun e => .inl (rd_mono l e)) .inr
theorem sqL_mono {K : PySem.W.Frag} {G G' : Hp} (l : Le G G') {a : Addr} {vs : List V} (h : SqL K G a vs) : SqL K G' a vs := h.elim (fun e => .inl (rd_mono l e)) .inr
theorem Le.trans {G G1 G2 : Hp} (a : Le G G1) (b : Le G1 G2) : Le G G2 := fun c o h => b c o (a c o h)
def isX (a C : Addr) : Heap → Prop := fun h => ∃ o, h.get? a = some o ∧ o.cls = .ref C
mutual
inductive Pu (K : PySem.W.Frag) (G : Hp) : V → D → Prop where
  | non : Pu K G .non .non
  | bl {b : Bool} : Pu K G (.bl b) (.bl b)
  | int {i : Int} : Pu K G (.int i) (.int i)
  | str {x : Str} : Pu K G (.str x) (.str x)
  | tup {a : Addr} {vs : List V} {ds : List D} : SqT K G a vs → Pus K G vs ds → Pu K G (.ref a) (.tup ds)
  | lst {a : Addr} {vs : List V} {ds : List D} : SqL K G a vs → Pus K G vs ds → Pu K G (.ref a) (.lst ds)
  | dct {a : Addr} {ks : List (Key × V)} {ds : List (Key × D)} : G a = some (.dK ks) → PuK K G ks ds → Pu K G (.ref a) (.dct ds)
  | exc {a C : Addr} {c : Str} : PySem.W.nsIn K mainGlobals c = some (some (.ref C)) → G a = some (.ext (isX a C)) → Pu K G (.ref a) (.exc c)
  | ptr {a : Addr} : Pu K G (.ref a) (.ptr a)
  | any {a : Addr} : Pu K G (.ref a) .any
inductive Pus (K : PySem.W.Frag) (G : Hp) : List V → List D → Prop where
  | nil : Pus K G [] []
  | cons {v : V} {vs : List V} {d : D} {ds : List D} : Pu K G v d → Pus K G vs ds → Pus K G (v :: vs) (d :: ds)
inductive PuK (K : PySem.W.Frag) (G : Hp) : List (Key × V) → List (Key × D) → Prop where
  | nil : PuK K G [] []
  | cons {k : Key} {v : V} {vs : List (Key × V)} {d : D} {ds : List (Key × D)} : Pu K G v d → PuK K G vs ds → PuK K G ((k, v) :: vs) ((k, d) :: ds)
end
mutual
theorem Pu.mono {G G' : Hp} (l : Le G G') : ∀ {v : V} {d : D}, Pu K G v d → Pu K G' v d
  | _, _, .non => .non
  | _, _, .bl => .bl
  | _, _, .int => .int
  | _, _, .str => .str
  | _, _, .tup e h => .tup (sqT_mono l e) (Pus.mono l h)
  | _, _, .lst e h => .lst (sqL_mono l e) (Pus.mono l h)
  | _, _, .dct e h => .dct (l _ _ e) (PuK.mono l h)
  | _, _, .exc e h => .exc e (l _ _ h)
  | _, _, .ptr => .ptr
  | _, _, .any => .any
theorem Pus.mono {G G' : Hp} (l : Le G G') : ∀ {v : List V} {d : List D}, Pus K G v d → Pus K G' v d
  | _, _, .nil => .nil
  | _, _, .cons a b => .cons (Pu.mono l a) (Pus.mono l b)
theorem PuK.mono {G G' : Hp} (l : Le G G') : ∀ {v : List (Key × V)} {d : List (Key × D)}, PuK K G v d → PuK K G' v d
  | _, _, .nil => .nil
  | _, _, .cons a b => .cons (Pu.mono l a) (PuK.mono l b)
end
theorem Pus.length {G : Hp} : ∀ {vs : List V} {ds : List D}, Pus K G vs ds → vs.length = ds.length
  | _, _, .nil => rfl
  | _, _, .cons _ h => congrArg (· + 1) (Pus.length h)
theorem Pus.get {G : Hp} : ∀ {vs : List V} {ds : List D} {i : Nat} {d : D}, Pus K G vs ds → ds[i]? = some d → ∃ v, vs[i]? = some v ∧ Pu K G v d
  | _, _, _, _, .nil, e => by simp at e
  | _, _, 0, _, .cons h _, e => by simp at e; subst e; exact ⟨_, rfl, h⟩
  | _, _, i + 1, d, .cons _ t, e => by
    obtain ⟨u, h1, h2⟩ := Pus.get (i := i) (d := d) t (by simpa using e)
    exact ⟨u, by simpa using h1, h2⟩
theorem Pus.append {G : Hp} : ∀ {vs ws : List V} {ds es : List D}, Pus K G vs ds → Pus K G ws es → Pus K G (vs ++ ws) (ds ++ es)
  | _, _, _, _, .nil, s => s
  | _, _, _, _, .cons r t, s => .cons r (Pus.append t s)
theorem Pus.take {G : Hp} : ∀ {vs : List V} {ds : List D} (n : Nat), Pus K G vs ds → Pus K G (vs.take n) (ds.take n)
  | _, _, 0, _ => .nil
  | _, _, _ + 1, .nil => .nil
  | _, _, n + 1, .cons r t => .cons r (Pus.take n t)
theorem Pus.drop {G : Hp} : ∀ {vs : List V} {ds : List D} (n : Nat), Pus K G vs ds → Pus K G (vs.drop n) (ds.drop n)
  | _, _, 0, r => r
  | _, _, _ + 1, .nil => .nil
  | _, _, n + 1, .cons _ t => Pus.drop n t
theorem Pus.set {G : Hp} {v : V} {d : D} (r : Pu K G v d) : ∀ {vs : List V} {ds : List D} (i : Nat), Pus K G vs ds → Pus K G (vs.set i v) (ds.set i d)
  | _, _, _, .nil => .nil
  | _, _, 0, .cons _ t => .cons r t
  | _, _, i + 1, .cons q t => .cons q (Pus.set r i t)
theorem Pus.dropLast {G : Hp} {vs : List V} {ds : List D} (h : Pus K G vs ds) : Pus K G vs.dropLast ds.dropLast := by
  rw [List.dropLast_eq_take, List.dropLast_eq_take, h.length]
  exact h.take _
theorem Pus.replicate {G : Hp} {v : V} {d : D} (r : Pu K G v d) : ∀ n : Nat, Pus K G (List.replicate n v) (List.replicate n d)
  | 0 => .nil
  | n + 1 => .cons r (Pus.replicate r n)
inductive RV where
  | p (d : D)
  | L (ds : List D)
  | K (kvs : List (Key × D))
  | S (xs : List D) (a : Addr) (ms : List D)
abbrev DS := List (Option RV)
def RepV (K : PySem.W.Frag) (G H : Hp) (v : V) : RV → List Addr → Prop
  | .p d, S => S = [] ∧ Pu K G v d
  | .L ds, S => ∃ a vs, v = .ref a ∧ S = [a] ∧ H a = some (.lst vs) ∧ G a = none ∧ Pus K G vs ds
  | .K ds, S => ∃ a vs, v = .ref a ∧ S = [a] ∧ H a = some (.dK vs) ∧ G a = none ∧ PuK K G vs ds
  | .S ds a ms, S => ∃ b vs ws, v = .ref b ∧ S = [b, a] ∧ H b = some (.lst vs) ∧ G b = none ∧ Pus K G vs ds ∧ H a = some (.lst ws) ∧ G a = none ∧ Pus K G ws ms ∧ a ≠ b
theorem RepV.gfree {G H : Hp} {v : V} {r : RV} {S : List Addr} (h : RepV K G H v r S) {a : Addr} (ha : a ∈ S) : G a = none := by
  cases r with
  | p d => obtain ⟨rfl, _⟩ := h; simp at ha
  | L ds => obtain ⟨b, vs, _, rfl, _, g, _⟩ := h; simp at ha; subst ha; exact g
  | K ds => obtain ⟨b, vs, _, rfl, _, g, _⟩ := h; simp at ha; subst ha; exact g
  | S ds c ms =>
    obtain ⟨b, vs, ws, _, rfl, _, g, _, _, g', _⟩ := h
    simp at ha
    rcases ha with rfl | rfl
    · exact g
    · exact g'
theorem RepV.there {G H : Hp} {v : V} {r : RV} {S : List Addr} (h : RepV K G H v r S) {a : Addr} (ha : a ∈ S) : ∃ o, H a = some o := by
  cases r with
  | p d => obtain ⟨rfl, _⟩ := h; simp at ha
  | L ds => obtain ⟨b, vs, _, rfl, g, _⟩ := h; simp at ha; subst ha; exact ⟨_, g⟩
  | K ds => obtain ⟨b, vs, _, rfl, g, _⟩ := h; simp at ha; subst ha; exact ⟨_, g⟩
  | S ds c ms =>
    obtain ⟨b, vs, ws, _, rfl, g, _, _, g', _⟩ := h
    simp at ha
    rcases ha with rfl | rfl
    · exact ⟨_, g⟩
    · exact ⟨_, g'⟩
theorem RepV.stay {G H G' H' : Hp} {v : V} {r : RV} {S : List Addr} (h : RepV K G H v r S) (l : Le G G') (k : ∀ a ∈ S, ∀ o, H a = some o → H' a = some o) (g : ∀ a ∈ S, G' a = none) : RepV K G' H' v r S := by
  cases r with
  | p d => exact ⟨h.1, h.2.mono l⟩
  | L ds =>
    obtain ⟨b, vs, e, rfl, h1, h2, h3⟩ := h
    exact ⟨b, vs, e, rfl, k b (by simp) _ h1, g b (by simp), h3.mono l⟩
  | K ds =>
    obtain ⟨b, vs, e, rfl, h1, h2, h3⟩ := h
    exact ⟨b, vs, e, rfl, k b (by simp) _ h1, g b (by simp), h3.mono l⟩
  | S ds c ms =>
    obtain ⟨b, vs, ws, e, rfl, h1, h2, h3, h4, h5, h6, h7⟩ := h
    exact ⟨b, vs, ws, e, rfl, k b (by simp) _ h1, g b (by simp), h3.mono l, k c (by simp) _ h4, g c (by simp), h6.mono l, h7⟩
abbrev Ft := Nat → List Addr
structure Rep (K : PySem.W.Frag) (G H : Hp) (σ : St) (ρ : DS) (A : Ft) : Prop where
  imm : Le G H
  len : σ.length = ρ.length
  slot : ∀ i r, ρ[i]? = some (some r) → ∃ v, σ[i]? = some (some v) ∧ RepV K G H v r (A i)
  emp : ∀ i, (∀ r, ρ[i]? ≠ some (some r)) → A i = []
  disj : ∀ i j a, a ∈ A i → a ∈ A j → i = j
theorem Rep.gfree {G H : Hp} {σ : St} {ρ : DS} {A : Ft} (R : Rep K G H σ ρ A) {i : Nat} {a : Addr} (h : a ∈ A i) : G a = none := by
  by_cases q : ∃ r, ρ[i]? = some (some r)
  · obtain ⟨r, q⟩ := q
    obtain ⟨v, _, hv⟩ := R.slot i r q
    exact hv.gfree h
  · have z := R.emp i (fun r e => q ⟨r, e⟩)
    rw [z] at h
    simp at h
theorem Rep.there {G H : Hp} {σ : St} {ρ : DS} {A : Ft} (R : Rep K G H σ ρ A) {i : Nat} {a : Addr} (h : a ∈ A i) : ∃ o, H a = some o := by
  by_cases q : ∃ r, ρ[i]? = some (some r)
  · obtain ⟨r, q⟩ := q
    obtain ⟨v, _, hv⟩ := R.slot i r q
    exact hv.there h
  · have z := R.emp i (fun r e => q ⟨r, e⟩)
    rw [z] at h
    simp at h
structure Evo (G H : Hp) (A : Ft) (G' H' : Hp) (A' : Ft) : Prop where
  le : Le G G'
  new : ∀ b o, G' b = some o → G b = some o ∨ H b = none ∨ ∃ i, b ∈ A i
  keep : ∀ b o, H b = some o → (∀ i, b ∉ A i) → H' b = some o
  foot : ∀ i b, b ∈ A' i → H b = none ∨ ∃ j, b ∈ A j
theorem Evo.refl (G H : Hp) (A : Ft) : Evo G H A G H A := ⟨Le.refl G, fun _ _ h => .inl h, fun _ _ h _ => h, fun i _ h => .inr ⟨i, h⟩⟩
theorem Evo.back {G H G1 H1 : Hp} {A A1 : Ft} (e : Evo G H A G1 H1 A1) {b : Addr} (h : H1 b = none) : H b = none ∨ ∃ i, b ∈ A i := by
  cases q : H b with
  | none => exact .inl rfl
  | some o =>
    by_cases z : ∃ i, b ∈ A i
    · exact .inr z
    · have k := e.keep b o q (fun i hi => z ⟨i, hi⟩)
      rw [h] at k
      cases k
theorem Evo.trans {G H G1 H1 G2 H2 : Hp} {A A1 A2 : Ft} (a : Evo G H A G1 H1 A1) (b : Evo G1 H1 A1 G2 H2 A2) : Evo G H A G2 H2 A2 where
  le := a.le.trans b.le
  new := fun c o h => by
    rcases b.new c o h with h | h | ⟨i, h⟩
    · exact a.new c o h
    · exact .inr (a.back h)
    · exact .inr (a.foot i c h)
  keep := fun c o h n => b.keep c o (a.keep c o h n) fun i hi => by
    rcases a.foot i c hi with z | ⟨j, z⟩
    · rw [h] at z; cases z
    · exact n j z
  foot := fun i c h => by
    rcases b.foot i c h with h | ⟨j, h⟩
    · exact a.back h
    · exact a.foot j c h
theorem Evo.held {G H G' H' : Hp} {A A' : Ft} (e : Evo G H A G' H' A') {v : V} {r : RV} {S : List Addr} (h : RepV K G H v r S) (d : ∀ i, ∀ a ∈ S, a ∉ A i) : RepV K G' H' v r S := by
  refine h.stay e.le (fun a ha o q => e.keep a o q fun i => d i a ha) fun a ha => ?_
  cases q : G' a with
  | none => rfl
  | some o =>
    rcases e.new a o q with z | z | ⟨i, z⟩
    · rw [h.gfree ha] at z; cases z
    · obtain ⟨o', q'⟩ := h.there ha
      rw [q'] at z; cases z
    · exact absurd z (d i a ha)
theorem Evo.heldApart {G H G' H' : Hp} {A A' : Ft} (e : Evo G H A G' H' A') {v : V} {r : RV} {S : List Addr} (h : RepV K G H v r S) (d : ∀ i, ∀ a ∈ S, a ∉ A i) : ∀ i, ∀ a ∈ S, a ∉ A' i := fun i a ha z => by
  rcases e.foot i a z with q | ⟨j, q⟩
  · obtain ⟨o, q'⟩ := h.there ha
    rw [q] at q'; cases q'
  · exact d j a ha q
structure Al (G H G' H' : Hp) : Prop where
  leG : Le G G'
  leH : Le H H'
  imm : Le G' H'
  new : ∀ b o, G' b = some o → G b = some o ∨ H b = none
theorem Al.refl {G H : Hp} (l : Le G H) : Al G H G H := ⟨Le.refl G, Le.refl H, l, fun _ _ h => .inl h⟩
theorem Al.trans {G H G1 H1 G2 H2 : Hp} (a : Al G H G1 H1) (b : Al G1 H1 G2 H2) : Al G H G2 H2 :=
  ⟨a.leG.trans b.leG, a.leH.trans b.leH, b.imm, fun c o h => by
    rcases b.new c o h with h | h
    · exact a.new c o h
    · refine .inr ?_
      cases q : H c with
      | none => rfl
      | some o' => rw [a.leH c o' q] at h; cases h⟩
theorem Al.rv {G H G' H' : Hp} (a : Al G H G' H') {v : V} {r : RV} {S : List Addr} (h : RepV K G H v r S) : RepV K G' H' v r S :=
  h.stay a.leG (fun b _ o q => a.leH b o q) fun b hb => by
    cases q : G' b with
    | none => rfl
    | some o =>
      rcases a.new b o q with z | z
      · rw [h.gfree hb] at z; cases z
      · obtain ⟨o', q'⟩ := h.there hb
        rw [q'] at z; cases z
theorem Al.rep {G H G' H' : Hp} {σ : St} {ρ : DS} {A : Ft} (a : Al G H G' H') (R : Rep K G H σ ρ A) : Rep K G' H' σ ρ A :=
  ⟨a.imm, R.len, fun i r e => let ⟨v, h1, h2⟩ := R.slot i r e; ⟨v, h1, a.rv h2⟩, R.emp, R.disj⟩
theorem Al.evo {G H G' H' : Hp} {A : Ft} (a : Al G H G' H') : Evo G H A G' H' A :=
  ⟨a.leG, fun b o h => (a.new b o h).elim .inl fun z => .inr (.inl z), fun b o h _ => a.leH b o h, fun i b h => .inr ⟨i, h⟩⟩
theorem le_upd {H : Hp} {p : Addr} {o : HO} (h : H p = none) : Le H (upd H p o) := fun b u q => by rw [upd_ne (ne_of_none q h)]; exact q
theorem Al.frozen {G H : Hp} {p : Addr} {o : HO} (l : Le G H) (h : H p = none) : Al G H (upd G p o) (upd H p o) := by
  have g : G p = none := by
    cases q : G p with
    | none => rfl
    | some u => rw [l p u q] at h; cases h
  refine ⟨le_upd g, le_upd h, fun b u q => ?_, fun b u q => ?_⟩
  · by_cases e : b = p
    · subst e; rw [upd_same] at q ⊢; exact q
    · rw [upd_ne e] at q ⊢; exact l b u q
  · by_cases e : b = p
    · subst e; exact .inr h
    · rw [upd_ne e] at q; exact .inl q
theorem Al.own {G H : Hp} {p : Addr} {o : HO} (l : Le G H) (h : H p = none) : Al G H G (upd H p o) :=
  ⟨Le.refl G, le_upd h, l.trans (le_upd h), fun _ _ q => .inl q⟩
theorem g_none {G H : Hp} {p : Addr} (l : Le G H) (h : H p = none) : G p = none := by
  cases q : G p with
  | none => rfl
  | some u => rw [l p u q] at h; cases h
inductive RR where
  | own (r : RV)
  | at (i : Nat)
def ResOf (K : PySem.W.Frag) (G H : Hp) (σ : St) (A : Ft) (v : V) : RR → List Addr → Prop
  | .own r, S => RepV K G H v r S ∧ ∀ i, ∀ a ∈ S, a ∉ A i
  | .at i, S => S = [] ∧ σ[i]? = some (some v)
def res (ρ : DS) : RR → Option RV
  | .own r => some r
  | .at i => ρ[i]?.join
theorem res_of {G H : Hp} {σ : St} {ρ : DS} {A : Ft} {v : V} {rr : RR} {S : List Addr} {r : RV} (R : Rep K G H σ ρ A) (h : ResOf K G H σ A v rr S) (e : res ρ rr = some r) : ∃ S', RepV K G H v r S' := by
  cases rr with
  | own q => cases e; exact ⟨S, h.1⟩
  | «at» i =>
    obtain ⟨_, hv⟩ := h
    have e' : ρ[i]? = some (some r) := by
      have e : ρ[i]?.join = some r := e
      cases q : ρ[i]? with
      | none => rw [q] at e; cases e
      | some o => rw [q] at e; cases o with
        | none => cases e
        | some x => cases e; rfl
    obtain ⟨u, hu, hr⟩ := R.slot i r e'
    rw [hv] at hu
    cases hu
    exact ⟨_, hr⟩
theorem ResOf.evo {G H G' H' : Hp} {σ : St} {A A' : Ft} {v : V} {rr : RR} {S : List Addr} (e : Evo G H A G' H' A') (h : ResOf K G H σ A v rr S) : ResOf K G' H' σ A' v rr S := by
  cases rr with
  | own r => exact ⟨e.held h.1 h.2, e.heldApart h.1 h.2⟩
  | «at» i => exact h
def tD (K : PySem.W.Frag) (ρ : DS) (rr : RR) (ρ' : DS) : TE := fun σ H Q => ∃ G A, Rep K G H σ ρ A ∧ ∀ v G' H' A' S, Evo G H A G' H' A' → Rep K G' H' σ ρ' A' → ResOf K G' H' σ A' v rr S → (∀ a ∈ S, H a = none ∨ ∃ i, a ∈ A i) → Q v H'
abbrev FE := DS → Option (RR × DS)
def DE (X : Cx) (e : Expr) (f : FE) : Prop := ∀ ρ rr ρ', f ρ = some (rr, ρ') → PE X e (tD X.K ρ rr ρ')
theorem PE.imp {X : Cx} {e : Expr} {t t' : TE} (h : PE X e t) (i : ∀ σ H Q, t' σ H Q → t σ H Q) : PE X e t' := fun pins s σ H Q I q => h pins s σ H Q I (i σ H Q q)
def tDT (K : PySem.W.Frag) (ρ : DS) (b : Bool) (ρ' : DS) : TT := fun σ H Q => ∃ G A, Rep K G H σ ρ A ∧ ∀ G' H' A', Evo G H A G' H' A' → Rep K G' H' σ ρ' A' → Q b H'
abbrev FT := DS → Option (Bool × DS)
def DT (X : Cx) (e : Expr) (f : FT) : Prop := ∀ ρ b ρ', f ρ = some (b, ρ') → PT X e (tDT X.K ρ b ρ')
theorem PT.imp {X : Cx} {e : Expr} {t t' : TT} (h : PT X e t) (i : ∀ σ H Q, t' σ H Q → t σ H Q) : PT X e t' := fun pins s σ H Q I q => h pins s σ H Q I (i σ H Q q)
def ResL (K : PySem.W.Frag) (G H : Hp) (σ : St) (A : Ft) : List V → List RR → List (List Addr) → Prop
  | [], [], [] => True
  | v :: vs, r :: rs, S :: Ss => ResOf K G H σ A v r S ∧ (∀ T ∈ Ss, ∀ a ∈ S, a ∉ T) ∧ ResL K G H σ A vs rs Ss
  | _, _, _ => False
def tDA (K : PySem.W.Frag) (ρ : DS) (rs : List RR) (ρ' : DS) : TA := fun σ H Q => ∃ G A, Rep K G H σ ρ A ∧ ∀ vs G' H' A' Ss, Evo G H A G' H' A' → Rep K G' H' σ ρ' A' → ResL K G' H' σ A' vs rs Ss → (∀ S ∈ Ss, ∀ a ∈ S, H a = none ∨ ∃ i, a ∈ A i) → Q vs H'
abbrev FA := DS → Option (List RR × DS)
def DA (X : Cx) (es : List Expr) (f : FA) : Prop := ∀ ρ rs ρ', f ρ = some (rs, ρ') → PA X es (tDA X.K ρ rs ρ')
theorem PA.imp {X : Cx} {e : List Expr} {t t' : TA} (h : PA X e t) (i : ∀ σ H Q, t' σ H Q → t σ H Q) : PA X e t' := fun pos pins s σ H Q I q => h pos pins s σ H Q I (i σ H Q q)
end L2.CF
namespace L2.CF
open PySem PySem.Spec PyProof.Rows
variable {K : PySem.W.Frag}
section
variable {X : Cx} {a b c : Expr} {pos : Pos} {fa fb fc : FE} {es : List Expr}
def fVar (i : Nat) : FE := fun ρ => match ρ[i]? with
  | some (some (.p d)) => some (.own (.p d), ρ)
  | some (some _) => some (.at i, ρ)
  | _ => none
theorem de_var {i : Nat} (h : PE X a (tVar i)) : DE X a (fVar i) := by
  intro ρ rr ρ' hf
  refine PE.imp h fun σ H Q ⟨G, A, R, k⟩ => ?_
  unfold fVar at hf
  cases e : ρ[i]? with
  | none => rw [e] at hf; cases hf
  | some o =>
    rw [e] at hf
    cases o with
    | none => cases hf
    | some r =>
      obtain ⟨v, hv, hr⟩ := R.slot i r e
      refine ⟨v, hv, ?_⟩
      cases r with
      | p d =>
        cases hf
        exact k v G H A [] (Evo.refl _ _ _) R ⟨⟨rfl, hr.2⟩, by simp⟩ (by simp)
      | L ds => cases hf; exact k v G H A [] (Evo.refl _ _ _) R ⟨rfl, hv⟩ (by simp)
      | K ds => cases hf; exact k v G H A [] (Evo.refl _ _ _) R ⟨rfl, hv⟩ (by simp)
      | S ds c ms => cases hf; exact k v G H A [] (Evo.refl _ _ _) R ⟨rfl, hv⟩ (by simp)
def fC (d : D) : FE := fun ρ => some (.own (.p d), ρ)
theorem de_c {v : V} {d : D} (h : PE X a (tC v)) (hp : ∀ G, Pu X.K G v d) : DE X a (fC d) := by
  intro ρ rr ρ' hf
  cases hf
  exact PE.imp h fun σ H Q ⟨G, A, R, k⟩ => k v G H A [] (Evo.refl _ _ _) R ⟨⟨rfl, hp G⟩, by simp⟩ (by simp)
theorem de_int {i j pos} : DE X (.Constant (.int i) j pos) (fC (.int i)) := de_c pe_int fun _ => .int
theorem de_bl {i j pos} : DE X (.Constant (.bool i) j pos) (fC (.bl i)) := de_c pe_bl fun _ => .bl
theorem de_non {j pos} : DE X (.Constant .none j pos) (fC .non) := de_c pe_non fun _ => .non
theorem de_str {i j pos} : DE X (.Constant (.str i) j pos) (fC (.str i)) := de_c pe_str fun _ => .str
theorem dv (i : Nat) {x : Str} {pos : Pos} (hN : X.N[i]? = some x := by rfl) (hv : Vis X.env.scope x := by first | exact Or.inl rfl | exact Or.inr (Or.inl rfl) | exact Or.inr (Or.inr rfl)) (hd : (x == ("__debug__" : Str)) = false := by decide)
    (hcd : (x == ("__classdict__" : Str)) = false := by decide) : DE X (.Name x pos) (fVar i) := de_var (pe_var hN hv hd hcd)
abbrev G2 := RV → RV → Option RV
def rdOp (K : PySem.W.Frag) (x y r : RV) : R2 := fun vx vy H Q => ∃ G Sx Sy, Le G H ∧ RepV K G H vx x Sx ∧ RepV K G H vy y Sy ∧ ∀ v G' H' S, Al G H G' H' → RepV K G' H' v r S → (∀ a ∈ S, H a = none) → Q v H'
def OpD (X : Cx) (F : Value → Value → Sem Value) (g : G2) : Prop := ∀ x y r, g x y = some r → OpR X F (rdOp X.K x y r)
def IxD (X : Cx) (g : G2) : Prop := ∀ x y r, g x y = some r → IxR X (rdOp X.K x y r)
theorem OpR.imp {F : Value → Value → Sem Value} {r r' : R2} (h : OpR X F r) (i : ∀ x y H Q, r' x y H Q → r x y H Q) : OpR X F r' := fun pins s σ H x y v u Q I rx ry q => h pins s σ H x y v u Q I rx ry (i x y H Q q)
theorem IxR.imp {r r' : R2} (h : IxR X r) (i : ∀ x y H Q, r' x y H Q → r x y H Q) : IxR X r' := fun va sl pins s σ H x y v u Q I rx ry q => h va sl pins s σ H x y v u Q I rx ry (i x y H Q q)
def f2 (g : G2) (fa fb : FE) : FE := fun ρ => (fa ρ).bind fun p => (fb p.2).bind fun q => (res q.2 p.1).bind fun x => (res q.2 q.1).bind fun y => (g x y).map fun r => (.own r, q.2)
theorem f2_inv {g : G2} {ρ : DS} {rr : RR} {ρ' : DS} (h : f2 g fa fb ρ = some (rr, ρ')) : ∃ ra ρ1 rb x y r, fa ρ = some (ra, ρ1) ∧ fb ρ1 = some (rb, ρ') ∧ res ρ' ra = some x ∧ res ρ' rb = some y ∧ g x y = some r ∧ rr = .own r := by
  unfold f2 at h
  obtain ⟨⟨ra, ρ1⟩, h1, h⟩ := obi h
  obtain ⟨⟨rb, ρ2⟩, h2, h⟩ := obi h
  obtain ⟨x, h3, h⟩ := obi h
  obtain ⟨y, h4, h⟩ := obi h
  obtain ⟨r, h5, h⟩ := omi h
  cases h
  exact ⟨ra, ρ1, rb, x, y, r, h1, h2, h3, h4, h5, rfl⟩
theorem evo_apart {G H G' H' : Hp} {σ : St} {ρ : DS} {A A' : Ft} (R : Rep K G' H' σ ρ A') {S : List Addr} (f : ∀ a ∈ S, H' a = none) : ∀ i, ∀ a ∈ S, a ∉ A' i := fun i a ha z => by
  obtain ⟨o, q⟩ := R.there z
  rw [f a ha] at q; cases q
theorem op_ent {g : G2} {ρ ρ1 ρ2 : DS} {ra rb : RR} {x y r : RV} (h3 : res ρ2 ra = some x) (h4 : res ρ2 rb = some y) {σ : St} {H : Hp} {Q : VK} (h : tD K ρ (.own r) ρ2 σ H Q) : tOp (rdOp K x y r) (tD K ρ ra ρ1) (tD K ρ1 rb ρ2) σ H Q := by
  obtain ⟨G, A, R, k⟩ := h
  refine ⟨G, A, R, fun v1 G1 H1 A1 S1 e1 R1 q1 f1 => ⟨G1, A1, R1, fun v2 G2 H2 A2 S2 e2 R2 q2 f2 => ?_⟩⟩
  obtain ⟨Sx, hx⟩ := res_of R2 (q1.evo e2) h3
  obtain ⟨Sy, hy⟩ := res_of R2 q2 h4
  refine ⟨G2, Sx, Sy, R2.imm, hx, hy, fun v G3 H3 S al hr fr => ?_⟩
  exact k v G3 H3 A2 S ((e1.trans e2).trans al.evo) (al.rep R2) ⟨hr, evo_apart (G := G2) (H := H2) (A := A2) R2 fr⟩ fun a ha => (e1.trans e2).back (fr a ha)
theorem de_op {op : Operator} {g : G2} (ho : OpD X (binaryOp op) g) (ha : DE X a fa) (hb : DE X b fb) : DE X (.BinOp a op b pos) (f2 g fa fb) := by
  intro ρ rr ρ' hf
  obtain ⟨ra, ρ1, rb, x, y, r, h1, h2, h3, h4, h5, rfl⟩ := f2_inv hf
  exact PE.imp (pe_op (ho x y r h5) (ha _ _ _ h1) (hb _ _ _ h2)) fun σ H Q h => op_ent (g := g) h3 h4 h
theorem de_cmp {op : CmpOp} {g : G2} (ho : OpD X (compareOp op) g) (ha : DE X a fa) (hb : DE X b fb) (hm : behindInMarks op b = false := by first | exact nomark _ | with_unfolding_all rfl) : DE X (.Compare a [op] [b] pos) (f2 g fa fb) := by
  intro ρ rr ρ' hf
  obtain ⟨ra, ρ1, rb, x, y, r, h1, h2, h3, h4, h5, rfl⟩ := f2_inv hf
  exact PE.imp (pe_cmpR (ho x y r h5) (ha _ _ _ h1) (hb _ _ _ h2) hm) fun σ H Q h => op_ent (g := g) h3 h4 h
theorem de_ix {g : G2} (ho : IxD X g) (ha : DE X a fa) (hb : DE X b fb) (hs : PlainIx b := by exact fun _ _ => rfl) : DE X (.Subscript a b pos) (f2 g fa fb) := by
  intro ρ rr ρ' hf
  obtain ⟨ra, ρ1, rb, x, y, r, h1, h2, h3, h4, h5, rfl⟩ := f2_inv hf
  exact PE.imp (pe_ix (ho x y r h5) (ha _ _ _ h1) (hb _ _ _ h2) hs) fun σ H Q h => op_ent (g := g) h3 h4 h
def tru : RV → Option Bool
  | .p .non => some false
  | .p (.bl b) => some b
  | .p (.int i) => some (i != 0)
  | .p (.str x) => if x.length ≤ sizeLine then some ((x.length : Int) != 0) else none
  | .p (.tup l) => some (!l.isEmpty)
  | .p (.lst l) => some (!l.isEmpty)
  | .p (.dct l) => some (!l.isEmpty)
  | .p (.exc _) => none
  | .p (.ptr _) => none
  | .p .any => none
  | .L l => some (!l.isEmpty)
  | .K l => some (!l.isEmpty)
  | .S _ _ _ => none
theorem Pus.emp {G : Hp} {vs : List V} {ds : List D} (h : Pus K G vs ds) : vs.isEmpty = ds.isEmpty := by cases h <;> rfl
theorem PuK.emp {G : Hp} {vs : List (Key × V)} {ds : List (Key × D)} (h : PuK K G vs ds) : vs.isEmpty = ds.isEmpty := by cases h <;> rfl
theorem tru_V {K : PySem.W.Frag} {G H : Hp} {v : V} {r : RV} {S : List Addr} {k : Bool} (l : Le G H) (h : RepV K G H v r S) (e : tru r = some k) : TruV K v H k := by
  cases r with
  | p d =>
    obtain ⟨_, h⟩ := h
    cases h with
    | non => cases e; rfl
    | bl => cases e; rfl
    | int => cases e; rfl
    | str =>
      simp only [tru] at e
      split at e
      · next hz => cases e; exact ⟨hz, rfl⟩
      · cases e
    | tup q z => cases e; exact .inr (.inl ⟨_, sqT_mono l q, by rw [z.emp]⟩)
    | lst q z => cases e; exact .inl ⟨_, sqL_mono l q, by rw [z.emp]⟩
    | dct q z => cases e; exact .inr (.inr ⟨_, l _ _ q, by rw [z.emp]⟩)
    | exc q z => cases e
    | ptr => cases e
    | any => cases e
  | L ds => obtain ⟨a, vs, rfl, _, q, _, z⟩ := h; cases e; exact .inl ⟨_, SqL.of q, by rw [z.emp]⟩
  | K ds => obtain ⟨a, vs, rfl, _, q, _, z⟩ := h; cases e; exact .inr (.inr ⟨_, q, by rw [z.emp]⟩)
  | S ds c ms => cases e
def fT (f : FE) : FT := fun ρ => (f ρ).bind fun p => (res p.2 p.1).bind fun x => (tru x).map fun k => (k, p.2)
theorem fT_inv {f : FE} {ρ ρ' : DS} {k : Bool} (h : fT f ρ = some (k, ρ')) : ∃ rr x, f ρ = some (rr, ρ') ∧ res ρ' rr = some x ∧ tru x = some k := by
  unfold fT at h
  obtain ⟨⟨ra, ρ1⟩, h1, h⟩ := obi h
  obtain ⟨x, h3, h⟩ := obi h
  obtain ⟨r, h5, h⟩ := omi h
  cases h
  exact ⟨ra, x, h1, h3, h5⟩
theorem dt_truth (ha : DE X a fa) (he : ∀ whole, isTrue a X.env whole = (do let v ← whole; standAt a.pos; holding [v] (truthy v)) := by intro _; rfl) : DT X a (fT fa) := by
  intro ρ k ρ' hf
  obtain ⟨rr, x, h1, h2, h3⟩ := fT_inv hf
  refine PT.imp (pt_truth (ha _ _ _ h1) he) fun σ H Q ⟨G, A, R, q⟩ => ⟨G, A, R, fun v G' H' A' S e R' r f => ?_⟩
  obtain ⟨S', hx⟩ := res_of R' r h2
  exact ⟨k, tru_V R'.imm hx h3, q G' H' A' e R'⟩
theorem dt_cmp {op : CmpOp} {g : G2} (ho : OpD X (compareOp op) g) (hg : ∀ x y r, g x y = some r → ∃ k, r = .p (.bl k)) (ha : DE X a fa) (hb : DE X b fb) (hm : behindInMarks op b = false := by first | exact nomark _ | with_unfolding_all rfl) :
    DT X (.Compare a [op] [b] pos) (fT (f2 g fa fb)) := by
  intro ρ k ρ' hf
  obtain ⟨rr, z, h1, h2, h3⟩ := fT_inv hf
  obtain ⟨ra, ρ1, rb, x, y, r, g1, g2, g3, g4, g5, rfl⟩ := f2_inv h1
  obtain ⟨k', rfl⟩ := hg x y r g5
  cases h2
  cases h3
  refine PT.imp (pt_cmpR (ho x y _ g5) (ha _ _ _ g1) (hb _ _ _ g2) hm) fun σ H Q ⟨G, A, R, q⟩ => ?_
  refine op_ent (g := g) g3 g4 ⟨G, A, R, fun v G' H' A' S e R' ⟨r, _⟩ f => ?_⟩
  obtain ⟨_, r⟩ := r
  cases r
  exact ⟨_, rfl, q G' H' A' e R'⟩
variable {ta tb : FT} {rest : List Expr}
def fAnd (t u : FT) : FT := fun ρ => (t ρ).bind fun p => if p.1 then u p.2 else some (false, p.2)
def fOr (t u : FT) : FT := fun ρ => (t ρ).bind fun p => if p.1 then some (true, p.2) else u p.2
def fNot (t : FT) : FT := fun ρ => (t ρ).map fun p => (!p.1, p.2)
def DW (X : Cx) (e : Expr) (f : FT) : Prop := ∀ ρ b ρ', f ρ = some (b, ρ') → PW X e (tDT X.K ρ b ρ')
theorem PW.imp {e : Expr} {t t' : TT} (h : PW X e t) (i : ∀ σ H Q, t' σ H Q → t σ H Q) : PW X e t' := fun w pins s σ H Q I q => h w pins s σ H Q I (i σ H Q q)
theorem DW.dt {e : Expr} {f : FT} (h : DW X e f) : DT X e f := fun ρ b ρ' hf => (h ρ b ρ' hf).pt
theorem dw_and1 (ha : DT X a ta) : DW X (.BoolOp .And [a] pos) ta := fun ρ b ρ' hf => pw_and1 (ha ρ b ρ' hf)
theorem dw_or1 (ha : DT X a ta) : DW X (.BoolOp .Or [a] pos) ta := fun ρ b ρ' hf => pw_or1 (ha ρ b ρ' hf)
theorem dw_and (ha : DT X a ta) (hb : DW X (.BoolOp .And (b :: rest) pos) tb) : DW X (.BoolOp .And (a :: b :: rest) pos) (fAnd ta tb) := by
  intro ρ k ρ' hf
  unfold fAnd at hf
  obtain ⟨⟨k1, ρ1⟩, h1, h⟩ := obi hf
  cases k1 with
  | true =>
    refine PW.imp (pw_and (ha _ _ _ h1) (hb _ _ _ h)) fun σ H Q ⟨G, A, R, q⟩ => ⟨G, A, R, fun G' H' A' e R' => ?_⟩
    refine iteT ⟨G', A', R', fun G2 H2 A2 e2 R2 => q G2 H2 A2 (e.trans e2) R2⟩
  | false =>
    cases h
    have z : PW X (.BoolOp .And (b :: rest) pos) (fun _ _ _ => False) := fun _ _ _ _ _ _ _ f => f.elim
    exact PW.imp (pw_and (ha _ _ _ h1) z) fun σ H Q ⟨G, A, R, q⟩ => ⟨G, A, R, fun G' H' A' e R' => iteF (q G' H' A' e R')⟩
theorem dw_or (ha : DT X a ta) (hb : DW X (.BoolOp .Or (b :: rest) pos) tb) : DW X (.BoolOp .Or (a :: b :: rest) pos) (fOr ta tb) := by
  intro ρ k ρ' hf
  unfold fOr at hf
  obtain ⟨⟨k1, ρ1⟩, h1, h⟩ := obi hf
  cases k1 with
  | false =>
    refine PW.imp (pw_or (ha _ _ _ h1) (hb _ _ _ h)) fun σ H Q ⟨G, A, R, q⟩ => ⟨G, A, R, fun G' H' A' e R' => ?_⟩
    refine iteF ⟨G', A', R', fun G2 H2 A2 e2 R2 => q G2 H2 A2 (e.trans e2) R2⟩
  | true =>
    cases h
    have z : PW X (.BoolOp .Or (b :: rest) pos) (fun _ _ _ => False) := fun _ _ _ _ _ _ _ f => f.elim
    exact PW.imp (pw_or (ha _ _ _ h1) z) fun σ H Q ⟨G, A, R, q⟩ => ⟨G, A, R, fun G' H' A' e R' => iteT (q G' H' A' e R')⟩
theorem dt_not (ha : DT X a ta) : DT X (.UnaryOp .Not a pos) (fNot ta) := by
  intro ρ k ρ' hf
  unfold fNot at hf
  obtain ⟨⟨k1, ρ1⟩, h1, h⟩ := omi hf
  cases h
  exact PT.imp (pt_not (ha _ _ _ h1)) fun σ H Q ⟨G, A, R, q⟩ => ⟨G, A, R, fun G' H' A' e R' => q G' H' A' e R'⟩
end
end L2.CF
namespace L2.CF
open PySem PySem.Spec PyProof.Rows
variable {K : PySem.W.Frag}
section
variable {X : Cx}
theorem pu_int {G H : Hp} {v : V} {i : Int} {S : List Addr} (h : RepV K G H v (.p (.int i)) S) : v = .int i := by obtain ⟨_, h⟩ := h; cases h; rfl
theorem pu_str {G H : Hp} {v : V} {i : Str} {S : List Addr} (h : RepV K G H v (.p (.str i)) S) : v = .str i := by obtain ⟨_, h⟩ := h; cases h; rfl
def gI (C : Int → Int → Bool) (g : Int → Int → D) : G2
  | .p (.int i), .p (.int j) => if C i j then some (.p (g i j)) else none
  | _, _ => none
theorem gI_inv {C : Int → Int → Bool} {g : Int → Int → D} {x y r : RV} (h : gI C g x y = some r) : ∃ i j, x = .p (.int i) ∧ y = .p (.int j) ∧ C i j = true ∧ r = .p (g i j) := by
  unfold gI at h
  split at h
  · next i j =>
    split at h
    · next hc => cases h; exact ⟨i, j, rfl, rfl, hc, rfl⟩
    · cases h
  · cases h
theorem opd_I {F : Value → Value → Sem Value} {P : Int → Int → Prop} {C : Int → Int → Bool} {gv : Int → Int → V} {g : Int → Int → D} (h : OpR X F (rI P gv)) (hc : ∀ i j, C i j = true → P i j) (hp : ∀ G i j, Pu X.K G (gv i j) (g i j)) : OpD X F (gI C g) := by
  intro x y r e
  obtain ⟨i, j, rfl, rfl, c, rfl⟩ := gI_inv e
  refine OpR.imp h fun vx vy H Q ⟨G, Sx, Sy, l, hx, hy, q⟩ => ?_
  exact ⟨i, j, pu_int hx, pu_int hy, hc i j c, q _ G H [] (Al.refl l) ⟨rfl, hp G i j⟩ (by simp)⟩
theorem opd_I0 {F : Value → Value → Sem Value} {gv : Int → Int → V} {g : Int → Int → D} (h : OpR X F (rI0 gv)) (hp : ∀ G i j, Pu X.K G (gv i j) (g i j)) : OpD X F (gI (fun _ _ => true) g) := by
  intro x y r e
  obtain ⟨i, j, rfl, rfl, c, rfl⟩ := gI_inv e
  refine OpR.imp h fun vx vy H Q ⟨G, Sx, Sy, l, hx, hy, q⟩ => ?_
  exact ⟨i, j, pu_int hx, pu_int hy, q _ G H [] (Al.refl l) ⟨rfl, hp G i j⟩ (by simp)⟩
def gSub : G2 := gI (fun _ _ => true) fun i j => .int (i - j)
theorem o_sub : OpD X (binaryOp .Sub) gSub := opd_I0 op_sub fun _ _ _ => .int
def mulOk (i j : Int) : Bool := decide ((-(2 ^ 64) < i ∧ i < 2 ^ 64) ∨ (-(2 ^ 64) < j ∧ j < 2 ^ 64))
def gMod : G2 := gI (fun _ j => decide (0 < j)) fun i j => .int (i % j)
theorem o_mod : OpD X (binaryOp .Mod) gMod := opd_I op_mod (fun i j h => of_decide_eq_true h) fun _ _ _ => .int
def gFdiv : G2 := gI (fun _ j => decide (0 < j ∧ j < 1073741824)) fun i j => .int (i / j)
theorem o_fdiv : OpD X (binaryOp .FloorDiv) gFdiv := opd_I op_fdiv (fun i j h => by have h' := of_decide_eq_true h; exact h') fun _ _ _ => .int
def gPow : G2 := gI (fun i j => decide (0 ≤ j ∧ j ≤ 1000000 ∧ i.natAbs < 2 ^ 64)) fun i j => .int (i ^ j.toNat)
theorem o_pow : OpD X (binaryOp .Pow) gPow := opd_I op_pow (fun i j h => by have h' := of_decide_eq_true h; exact h') fun _ _ _ => .int
def gLt : G2 := gI (fun _ _ => true) fun i j => .bl (decide (i < j))
theorem o_lt : OpD X (compareOp .Lt) gLt := opd_I0 op_lt fun _ _ _ => .bl
def gGt : G2 := gI (fun _ _ => true) fun i j => .bl (decide (j < i))
theorem o_gt : OpD X (compareOp .Gt) gGt := opd_I0 op_gt fun _ _ _ => .bl
def gGe : G2 := gI (fun _ _ => true) fun i j => .bl (decide (j ≤ i))
theorem o_ge : OpD X (compareOp .GtE) gGe := opd_I0 op_ge fun _ _ _ => .bl
theorem gI_bl {C : Int → Int → Bool} {g : Int → Int → Bool} : ∀ x y r, gI C (fun i j => .bl (g i j)) x y = some r → ∃ k, r = .p (.bl k) := fun x y r h => by
  obtain ⟨i, j, _, _, _, rfl⟩ := gI_inv h
  exact ⟨_, rfl⟩
def itemsL : RV → Option (List D)
  | .L l => some l
  | .p (.lst l) => some l
  | .S l _ _ => some l
  | _ => none
def itemsT : RV → Option (List D)
  | .p (.tup l) => some l
  | _ => none
def items (r : RV) : Option (List D) := (itemsL r).or (itemsT r)
theorem itemsL_of {G H : Hp} {v : V} {r : RV} {S : List Addr} {ds : List D} (l : Le G H) (h : RepV K G H v r S) (e : itemsL r = some ds) : ∃ a vs, v = .ref a ∧ SqL K H a vs ∧ Pus K G vs ds := by
  cases r with
  | p d =>
    cases d with
    | lst l' => cases e; obtain ⟨_, h⟩ := h; cases h with | lst q z => exact ⟨_, _, rfl, sqL_mono l q, z⟩
    | _ => cases e
  | L ds' => cases e; obtain ⟨a, vs, rfl, _, q, _, z⟩ := h; exact ⟨a, vs, rfl, SqL.of q, z⟩
  | K ds' => cases e
  | S ds' c ms => cases e; obtain ⟨b, vs, ws, rfl, _, q, _, z, _⟩ := h; exact ⟨b, vs, rfl, SqL.of q, z⟩
theorem itemsT_of {G H : Hp} {v : V} {r : RV} {S : List Addr} {ds : List D} (l : Le G H) (h : RepV K G H v r S) (e : itemsT r = some ds) : ∃ a vs, v = .ref a ∧ SqT K H a vs ∧ Pus K G vs ds := by
  cases r with
  | p d =>
    cases d with
    | tup l' => cases e; obtain ⟨_, h⟩ := h; cases h with | tup q z => exact ⟨_, _, rfl, sqT_mono l q, z⟩
    | _ => cases e
  | L ds' => cases e
  | K ds' => cases e
  | S ds' c ms => cases e
theorem items_of {K : PySem.W.Frag} {G H : Hp} {v : V} {r : RV} {S : List Addr} {ds : List D} (l : Le G H) (h : RepV K G H v r S) (e : items r = some ds) : ∃ a vs, v = .ref a ∧ (SqL K H a vs ∨ SqT K H a vs) ∧ Pus K G vs ds := by
  unfold items at e
  cases q : itemsL r with
  | some x =>
    rw [q] at e; cases e
    obtain ⟨a, vs, e1, e2, e3⟩ := itemsL_of l h q
    exact ⟨a, vs, e1, .inl e2, e3⟩
  | none =>
    rw [q] at e
    obtain ⟨a, vs, e1, e2, e3⟩ := itemsT_of l h e
    exact ⟨a, vs, e1, .inr e2, e3⟩
theorem new_L {G H : Hp} {p : Addr} {vs : List V} {ds : List D} (l : Le G H) (h : H p = none) (z : Pus K G vs ds) : RepV K G (upd H p (.lst vs)) (.ref p) (.L ds) [p] := ⟨p, vs, rfl, rfl, upd_same, g_none l h, z⟩
theorem new_T {G H : Hp} {p : Addr} {vs : List V} {ds : List D} (l : Le G H) (h : H p = none) (z : Pus K G vs ds) : RepV K (upd G p (.tup vs)) (upd H p (.tup vs)) (.ref p) (.p (.tup ds)) [] :=
  ⟨rfl, .tup (SqT.of upd_same) (z.mono (le_upd (g_none l h)))⟩
def rCatS (K : PySem.W.Frag) : R2 := fun x y H Q => ∃ l b xs zs, x = .ref l ∧ y = .ref b ∧ SqL K H l xs ∧ SqL K H b zs ∧ xs.length + zs.length ≤ sizeLine ∧ ∀ p, H p = none → Q (.ref p) (upd H p (.lst (xs ++ zs)))
theorem op_catS : OpR X (binaryOp .Add) (rCatS X.K) := by
  intro pins s σ H x y v u Q I rx ry h
  obtain ⟨l, b, xs, zs, rfl, rfl, hH, hB, hz, q⟩ := h
  cases rx
  cases ry
  obtain ⟨its, r, pl, z⟩ := I.list hH
  obtain ⟨its2, r2, pl2, z2⟩ := I.list hB
  have e1 := r.length
  have e2 := r2.length
  obtain ⟨⟨cls, dd, data, sl⟩, ho, hc, n, hd⟩ := pl.isList
  obtain ⟨⟨cls2, dd2, data2, sl2⟩, ho2, hc2, n2, hd2⟩ := pl2.isList
  simp only at hc hd hc2 hd2
  subst hc hd hc2 hd2
  have e : its.toArray ++ its2.toArray = (its ++ its2).toArray := by simp
  refine concat_meets ⟨_, ho, rfl⟩ ⟨_, ho2, rfl⟩ noFill_list_add seq_list_add PySem.F.slot_list_add PySem.F.entry_list_add (PySem.F.args_list_add_2 _ _) (list_addW l b its.toArray its2.toArray n n2 dd dd2 sl sl2 (by simp only [List.size_toArray]; omega)) ⟨ho, ho2, ?_⟩
  rw [e]
  exact ⟨.ref _, _, I.lnew (t' := s.toks) (r.append r2) (by rw [List.length_append]; omega), rfl, q _ I.fresh⟩
def gAdd : G2
  | .p (.int i), .p (.int j) => some (.p (.int (i + j)))
  | .p (.str i), .p (.str j) => if i.length + j.length ≤ sizeLine then some (.p (.str (i ++ j))) else none
  | x, y => (itemsL x).bind fun l => (itemsL y).bind fun m => if l.length + m.length ≤ sizeLine then some (.L (l ++ m)) else none
theorem o_add : OpD X (binaryOp .Add) gAdd := by
  intro x y r e
  unfold gAdd at e
  split at e
  · next i j =>
    cases e
    refine OpR.imp op_add fun vx vy H Q ⟨G, Sx, Sy, l, hx, hy, q⟩ => ?_
    exact ⟨i, j, pu_int hx, pu_int hy, q _ G H [] (Al.refl l) ⟨rfl, .int⟩ (by simp)⟩
  · next i j =>
    split at e
    · next hz =>
      cases e
      refine OpR.imp op_add_str fun vx vy H Q ⟨G, Sx, Sy, l, hx, hy, q⟩ => ?_
      exact ⟨i, j, pu_str hx, pu_str hy, hz, q _ G H [] (Al.refl l) ⟨rfl, .str⟩ (by simp)⟩
    · cases e
  · obtain ⟨l1, h1, e⟩ := obi e
    obtain ⟨l2, h2, e⟩ := obi e
    split at e
    · next hz =>
      cases e
      refine OpR.imp op_catS fun vx vy H Q ⟨G, Sx, Sy, l, hx, hy, q⟩ => ?_
      obtain ⟨a, vs, rfl, q1, z1⟩ := itemsL_of l hx h1
      obtain ⟨b, ws, rfl, q2, z2⟩ := itemsL_of l hy h2
      refine ⟨a, b, vs, ws, rfl, rfl, q1, q2, by rw [z1.length, z2.length]; exact hz, fun p hp => ?_⟩
      exact q _ G _ [p] (Al.own l hp) (new_L l hp (z1.append z2)) (by simpa using hp)
    · cases e
theorem atI_pus {G : Hp} {vs : List V} {ds : List D} {i : Int} {d : D} (z : Pus K G vs ds) (h : atI ds i = some d) : ∃ v, atI vs i = some v ∧ Pu K G v d := by
  unfold atI at h ⊢
  obtain ⟨j, h1, h2⟩ := obi h
  obtain ⟨v, h3, h4⟩ := z.get h2
  rw [z.length, h1]
  exact ⟨v, h3, h4⟩
def gIx : G2
  | .p (.str z), .p (.int i) => if z.length ≤ sizeLine then (atI z.cps.toList i).map fun c => .p (.str ⟨#[c]⟩) else none
  | x, .p (.int i) => (items x).bind fun l => (atI l i).map .p
  | _, _ => none
theorem o_ix : IxD X gIx := by
  intro x y r e
  unfold gIx at e
  split at e
  · next z i =>
    split at e
    · next hz =>
      obtain ⟨c, h1, h2⟩ := omi e
      cases h2
      refine IxR.imp ix_str fun vx vy H Q ⟨G, Sx, Sy, l, hx, hy, q⟩ => ?_
      exact ⟨z, i, c, pu_str hx, pu_int hy, hz, h1, q _ G H [] (Al.refl l) ⟨rfl, .str⟩ (by simp)⟩
    · cases e
  · next i _ =>
    obtain ⟨l1, h1, e⟩ := obi e
    obtain ⟨d, h2, h3⟩ := omi e
    cases h3
    refine IxR.imp (ix_list.or ix_tup) fun vx vy H Q ⟨G, Sx, Sy, l, hx, hy, q⟩ => ?_
    obtain ⟨a, vs, rfl, hq, z⟩ := items_of (K := X.K) l hx h1
    obtain ⟨v, e1, e2⟩ := atI_pus z h2
    have fin := q v G H [] (Al.refl l) ⟨rfl, e2⟩ (by simp)
    rcases hq with hq | hq
    · exact .inl ⟨a, vs, i, v, rfl, pu_int hy, hq, e1, fin⟩
    · exact .inr ⟨a, vs, i, v, rfl, pu_int hy, hq, e1, fin⟩
  · cases e
end
end L2.CF
namespace L2.CF
open PySem PySem.Spec PyProof.Rows
variable {K : PySem.W.Frag}
section
variable {X : Cx} {e : Expr} {es : List Expr} {fe : FE} {fa : FA} {pos p : Pos}
def fNil : FA := fun ρ => some ([], ρ)
def fCons (f : FE) (g : FA) : FA := fun ρ => (f ρ).bind fun p => (g p.2).map fun q => (p.1 :: q.1, q.2)
theorem da_nil : DA X [] fNil := by
  intro ρ rs ρ' hf
  cases hf
  exact PA.imp pa_nil fun σ H Q ⟨G, A, R, k⟩ => k [] G H A [] (Evo.refl _ _ _) R trivial (by simp)
theorem ResOf.thereS {G H : Hp} {σ : St} {A : Ft} {v : V} {rr : RR} {S : List Addr} (h : ResOf K G H σ A v rr S) {a : Addr} (ha : a ∈ S) : ∃ o, H a = some o := by
  cases rr with
  | own r => exact h.1.there ha
  | «at» i => rw [h.1] at ha; simp at ha
theorem ResOf.apart {G H : Hp} {σ : St} {A : Ft} {v : V} {rr : RR} {S : List Addr} (h : ResOf K G H σ A v rr S) : ∀ i, ∀ a ∈ S, a ∉ A i := by
  cases rr with
  | own r => exact h.2
  | «at» i => rw [h.1]; simp
theorem da_cons (he : DE X e fe) (ha : DA X es fa) (hs : starEach (e :: es) X.env = (false, eval e X.env) :: starEach es X.env := by rfl) : DA X (e :: es) (fCons fe fa) := by
  intro ρ rs ρ' hf
  unfold fCons at hf
  obtain ⟨⟨ra, ρ1⟩, h1, h⟩ := obi hf
  obtain ⟨⟨rb, ρ2⟩, h2, h⟩ := omi h
  cases h
  refine PA.imp (pa_cons (he _ _ _ h1) (ha _ _ _ h2) hs) fun σ H Q ⟨G, A, R, k⟩ => ?_
  refine ⟨G, A, R, fun v G1 H1 A1 S e1 R1 q1 f1 => ⟨G1, A1, R1, fun vs G2 H2 A2 Ss e2 R2 q2 f2 => ?_⟩⟩
  refine k (v :: vs) G2 H2 A2 (S :: Ss) (e1.trans e2) R2 ⟨q1.evo e2, fun T hT a ha z => ?_, q2⟩ fun T hT a ha => ?_
  · rcases f2 T hT a z with w | ⟨i, w⟩
    · obtain ⟨o, q⟩ := q1.thereS ha
      rw [w] at q; cases q
    · exact q1.apart i a ha w
  · rcases List.mem_cons.mp hT with rfl | hT
    · exact f1 a ha
    · rcases f2 T hT a ha with w | ⟨i, w⟩
      · exact e1.back w
      · exact e1.foot i a w
def resL (ρ : DS) : List RR → Option (List RV)
  | [] => some []
  | r :: rs => (res ρ r).bind fun x => (resL ρ rs).map (x :: ·)
def pures : List RV → Option (List D)
  | [] => some []
  | .p d :: rs => (pures rs).map (d :: ·)
  | _ => none
theorem pures_of {G H : Hp} {σ : St} {ρ : DS} {A : Ft} (R : Rep K G H σ ρ A) : ∀ {vs : List V} {rs : List RR} {Ss : List (List Addr)} {xs : List RV} {ds : List D}, ResL K G H σ A vs rs Ss → resL ρ rs = some xs → pures xs = some ds → Pus K G vs ds
  | [], [], [], xs, ds, _, h1, h2 => by cases h1; cases h2; exact .nil
  | v :: vs, r :: rs, S :: Ss, xs, ds, ⟨q, _, qs⟩, h1, h2 => by
    unfold resL at h1
    obtain ⟨x, e1, h1⟩ := obi h1
    obtain ⟨ys, e2, h1⟩ := omi h1
    subst h1
    cases x with
    | p d =>
      obtain ⟨dd, e3, h2⟩ := omi h2
      subst h2
      obtain ⟨S', hx⟩ := res_of R q e1
      exact .cons hx.2 (pures_of R qs e2 e3)
    | L _ => cases h2
    | K _ => cases h2
    | S _ _ _ => cases h2
  | [], [], _ :: _, _, _, h, _, _ => h.elim
  | [], _ :: _, _, _, _, h, _, _ => h.elim
  | _ :: _, [], _, _, _, h, _, _ => h.elim
  | _ :: _, _ :: _, [], _, _, h, _, _ => h.elim
def fLst (f : FA) : FE := fun ρ => (f ρ).bind fun p => (resL p.2 p.1).bind fun xs => (pures xs).bind fun ds => if ds.length ≤ sizeLine then some (.own (.L ds), p.2) else none
theorem de_lst (ha : DA X es fa) : DE X (.List es pos) (fLst fa) := by
  intro ρ rr ρ' hf
  unfold fLst at hf
  obtain ⟨⟨rs, ρ1⟩, h1, h⟩ := obi hf
  obtain ⟨xs, h2, h⟩ := obi h
  obtain ⟨ds, h3, h⟩ := obi h
  split at h
  · next hz =>
    cases h
    refine PE.imp (pe_lst (ha _ _ _ h1)) fun σ H Q ⟨G, A, R, k⟩ => ⟨G, A, R, fun vs G1 H1 A1 Ss e1 R1 q1 f1 => ?_⟩
    have z := pures_of R1 q1 h2 h3
    refine ⟨by rw [z.length]; exact hz, fun p hp => ?_⟩
    have al : Al G1 H1 G1 (upd H1 p (.lst vs)) := Al.own R1.imm hp
    have fr : ∀ a ∈ [p], H1 a = none := by simpa using hp
    exact k _ _ _ A1 [p] (e1.trans al.evo) (al.rep R1) ⟨new_L R1.imm hp z, evo_apart (G := G1) (H := H1) (A := A1) R1 fr⟩ fun a ha => e1.back (fr a ha)
  · cases h
def RepL (K : PySem.W.Frag) (G H : Hp) : List V → List RV → Prop
  | [], [] => True
  | v :: vs, r :: rs => (∃ S, RepV K G H v r S) ∧ RepL K G H vs rs
  | _, _ => False
theorem repL_of {G H : Hp} {σ : St} {ρ : DS} {A : Ft} (R : Rep K G H σ ρ A) : ∀ {vs : List V} {rs : List RR} {Ss : List (List Addr)} {xs : List RV}, ResL K G H σ A vs rs Ss → resL ρ rs = some xs → RepL K G H vs xs
  | [], [], [], xs, _, h1 => by cases h1; trivial
  | v :: vs, r :: rs, S :: Ss, xs, ⟨q, _, qs⟩, h1 => by
    unfold resL at h1
    obtain ⟨x, e1, h1⟩ := obi h1
    obtain ⟨ys, e2, h1⟩ := omi h1
    subst h1
    exact ⟨res_of R q e1, repL_of R qs e2⟩
  | [], [], _ :: _, _, h, _ => h.elim
  | [], _ :: _, _, _, h, _ => h.elim
  | _ :: _, [], _, _, h, _ => h.elim
  | _ :: _, _ :: _, [], _, h, _ => h.elim
abbrev GL := List RV → Option RV
def rdCall (K : PySem.W.Frag) (xs : List RV) (r : RV) : List V → Hp → VK → Prop := fun vs H Q => ∃ G, Le G H ∧ RepL K G H vs xs ∧ ∀ v G' H' S, Al G H G' H' → RepV K G' H' v r S → (∀ a ∈ S, H a = none) → Q v H'
def CallD (X : Cx) (f : Value) (g : GL) : Prop := ∀ xs r, g xs = some r → CallR X f (rdCall X.K xs r)
theorem CallR.imp {f : Value} {r r' : List V → Hp → VK → Prop} (h : CallR X f r) (i : ∀ xs H Q, r' xs H Q → r xs H Q) : CallR X f r' := fun pins s σ H xs us Q I rx q => h pins s σ H xs us Q I rx (i xs H Q q)
def fCall (g : GL) (f : FA) : FE := fun ρ => (f ρ).bind fun p => (resL p.2 p.1).bind fun xs => (g xs).map fun r => (.own r, p.2)
theorem fCall_inv {g : GL} {f : FA} {ρ ρ' : DS} {rr : RR} (h : fCall g f ρ = some (rr, ρ')) : ∃ rs xs r, f ρ = some (rs, ρ') ∧ resL ρ' rs = some xs ∧ g xs = some r ∧ rr = .own r := by
  unfold fCall at h
  obtain ⟨⟨rs, ρ1⟩, h1, h⟩ := obi h
  obtain ⟨xs, h2, h⟩ := obi h
  obtain ⟨r, h3, h⟩ := omi h
  cases h
  exact ⟨rs, xs, r, h1, h2, h3, rfl⟩
theorem call_ent {ρ ρ1 : DS} {rs : List RR} {xs : List RV} {r : RV} (h2 : resL ρ1 rs = some xs) {σ : St} {H : Hp} {Q : VK} (h : tD K ρ (.own r) ρ1 σ H Q) : tCB (rdCall K xs r) (tDA K ρ rs ρ1) σ H Q := by
  obtain ⟨G, A, R, k⟩ := h
  refine ⟨G, A, R, fun vs G1 H1 A1 Ss e1 R1 q1 f1 => ⟨G1, R1.imm, repL_of R1 q1 h2, fun v G3 H3 S al hr fr => ?_⟩⟩
  exact k v G3 H3 A1 S (e1.trans al.evo) (al.rep R1) ⟨hr, evo_apart (G := G1) (H := H1) (A := A1) R1 fr⟩ fun a ha => e1.back (fr a ha)
theorem de_callB {x : Str} {id : String} {g : GL} (hc : CallD X (.builtin id) g) (hg : Gl X x) (hm : X.mg x = none) (hv : bootBuiltins x = some (.builtin id)) (ha : DA X (e :: es) fa) (hn : x ≠ "__name__" := by decide) (hdb : (x == ("__debug__" : Str)) = false := by decide)
    (he : starEach (e :: es) X.env = (false, eval e X.env) :: starEach es X.env := by rfl) (hpl : (backTo pos (starEach es X.env)).any (·.1) = false := by rfl) : DE X (.Call (.Name x p) (e :: es) [] pos) (fCall g fa) := by
  intro ρ rr ρ' hf
  obtain ⟨rs, xs, r, h1, h2, h3, rfl⟩ := fCall_inv hf
  exact PE.imp (pe_callB (hc xs r h3) hg hm hv (ha _ _ _ h1) hn hdb he hpl) fun σ H Q h => call_ent h2 h
theorem de_callTy {x : Str} {T : String} {g : GL} (hc : CallD X (.type T) g) (hg : Gl X x) (hm : X.mg x = none) (hv : bootBuiltins x = some (.type T)) (ha : DA X (e :: es) fa) (hn : x ≠ "__name__" := by decide) (hdb : (x == ("__debug__" : Str)) = false := by decide)
    (he : starEach (e :: es) X.env = (false, eval e X.env) :: starEach es X.env := by rfl) (hpl : (backTo pos (starEach es X.env)).any (·.1) = false := by rfl) : DE X (.Call (.Name x p) (e :: es) [] pos) (fCall g fa) := by
  intro ρ rr ρ' hf
  obtain ⟨rs, xs, r, h1, h2, h3, rfl⟩ := fCall_inv hf
  exact PE.imp (pe_callTy (hc xs r h3) hg hm hv (ha _ _ _ h1) hn hdb he hpl) fun σ H Q h => call_ent h2 h
theorem RepL.one {G H : Hp} {vs : List V} {x : RV} (h : RepL K G H vs [x]) : ∃ v S, vs = [v] ∧ RepV K G H v x S := by
  match vs, h with
  | [v], ⟨⟨S, h⟩, _⟩ => exact ⟨v, S, rfl, h⟩
  | [], h => exact h.elim
  | _ :: _ :: _, ⟨_, h⟩ => exact h.elim
theorem RepL.two {G H : Hp} {vs : List V} {x y : RV} (h : RepL K G H vs [x, y]) : ∃ v w S T, vs = [v, w] ∧ RepV K G H v x S ∧ RepV K G H w y T := by
  match vs, h with
  | [v, w], ⟨⟨S, h⟩, ⟨T, h'⟩, _⟩ => exact ⟨v, w, S, T, rfl, h, h'⟩
  | [], h => exact h.elim
  | [_], ⟨_, h⟩ => exact h.elim
  | _ :: _ :: _ :: _, ⟨_, _, h⟩ => exact h.elim
def gLen : GL
  | [.p (.str z)] => if z.length ≤ sizeLine then some (.p (.int z.length)) else none
  | [x] => (items x).map fun l => .p (.int l.length)
  | _ => none
theorem c_len : CallD X (.builtin "len") gLen := by
  intro xs r e
  unfold gLen at e
  split at e
  · next z =>
    split at e
    · next hz =>
      cases e
      refine CallR.imp call_len_str fun vs H Q ⟨G, l, h, q⟩ => ?_
      obtain ⟨v, S, rfl, hv⟩ := h.one
      exact ⟨z, by rw [pu_str hv], hz, q _ G H [] (Al.refl l) ⟨rfl, .int⟩ (by simp)⟩
    · cases e
  · next x _ =>
    obtain ⟨l1, h1, h2⟩ := omi e
    cases h2
    refine CallR.imp call_len_seq fun vs H Q ⟨G, l, h, q⟩ => ?_
    obtain ⟨v, S, rfl, hv⟩ := h.one
    obtain ⟨a, ws, rfl, hq, z⟩ := items_of (K := X.K) l hv h1
    exact ⟨a, ws, rfl, hq, by rw [z.length]; exact q _ G H [] (Al.refl l) ⟨rfl, .int⟩ (by simp)⟩
  · cases e
def gListOf : GL
  | [x] => (items x).map .L
  | _ => none
theorem c_list : CallD X (.type "list") gListOf := by
  intro xs r e
  unfold gListOf at e
  split at e
  · next x =>
    obtain ⟨l1, h1, h2⟩ := omi e
    cases h2
    refine CallR.imp call_list_of fun vs H Q ⟨G, l, h, q⟩ => ?_
    obtain ⟨v, S, rfl, hv⟩ := h.one
    obtain ⟨a, ws, rfl, hq, z⟩ := items_of (K := X.K) l hv h1
    exact ⟨a, ws, rfl, hq, fun p hp => q _ G _ [p] (Al.own l hp) (new_L l hp z) (by simpa using hp)⟩
  · cases e
end
end L2.CF
namespace L2.CF
open PySem PySem.Spec PyProof.Rows
variable {K : PySem.W.Frag}
def ownd : RV → Bool
  | .p _ => false
  | _ => true
def ownAt (ρ : DS) (i : Nat) : Prop := ∃ r, ρ[i]? = some (some r) ∧ ownd r = true
structure Pin (P : Nat) (ρ : DS) (σ : St) (ρ' : DS) (σ' : St) : Prop where
  par : ∀ i, i < P → ownAt ρ i → σ'[i]? = σ[i]? ∧ ownAt ρ' i
  held : ∀ (i : Nat) (r : RV), ρ[i]? = some (some r) → ∃ r', ρ'[i]? = some (some r')
  non : ∀ i : Nat, ρ'[i]? = some none → σ'[i]? = σ[i]?
  len : ρ'.length = ρ.length
theorem Pin.refl {P : Nat} {ρ : DS} {σ : St} : Pin P ρ σ ρ σ := ⟨fun _ _ h => ⟨rfl, h⟩, fun _ r h => ⟨r, h⟩, fun _ _ => rfl, rfl⟩
theorem Pin.noneBack {P : Nat} {ρ ρ' : DS} {σ σ' : St} (a : Pin P ρ σ ρ' σ') {i : Nat} (h : ρ'[i]? = some none) : ρ[i]? = some none := by
  have hl : i < ρ'.length := by
    rcases Nat.lt_or_ge i ρ'.length with z | z
    · exact z
    · rw [List.getElem?_eq_none_iff.mpr z] at h; cases h
  rw [a.len] at hl
  cases q : ρ[i]? with
  | none => rw [List.getElem?_eq_none_iff] at q; omega
  | some o =>
    cases o with
    | none => rfl
    | some r => obtain ⟨r', z⟩ := a.held i r q; rw [h] at z; cases z
theorem Pin.trans {P : Nat} {ρ ρ1 ρ2 : DS} {σ σ1 σ2 : St} (a : Pin P ρ σ ρ1 σ1) (b : Pin P ρ1 σ1 ρ2 σ2) : Pin P ρ σ ρ2 σ2 where
  par := fun i hi h => by
    obtain ⟨e1, h1⟩ := a.par i hi h
    obtain ⟨e2, h2⟩ := b.par i hi h1
    exact ⟨e2.trans e1, h2⟩
  held := fun i r h => by
    obtain ⟨r1, h1⟩ := a.held i r h
    exact b.held i r1 h1
  non := fun i h => (b.non i h).trans (a.non i (b.noneBack h))
  len := b.len.trans a.len
structure PinR (P : Nat) (ρ : DS) (σ : St) (ρ' : DS) (σ' : St) : Prop where
  par : ∀ i, i < P → ownAt ρ i → σ'[i]? = σ[i]? ∧ ownAt ρ' i
  held : ∀ (i : Nat) (r : RV), i < P → ρ[i]? = some (some r) → ∃ r', ρ'[i]? = some (some r')
  non : ∀ i : Nat, i < P → ρ'[i]? = some none → σ'[i]? = σ[i]?
  len : ρ'.length = ρ.length
theorem Pin.toR {P : Nat} {ρ ρ' : DS} {σ σ' : St} (a : Pin P ρ σ ρ' σ') : PinR P ρ σ ρ' σ' := ⟨a.par, fun i r _ h => a.held i r h, fun i _ h => a.non i h, a.len⟩
theorem PinR.noneBack {P : Nat} {ρ ρ' : DS} {σ σ' : St} (a : PinR P ρ σ ρ' σ') {i : Nat} (hp : i < P) (h : ρ'[i]? = some none) : ρ[i]? = some none := by
  have hl : i < ρ'.length := by
    rcases Nat.lt_or_ge i ρ'.length with z | z
    · exact z
    · rw [List.getElem?_eq_none_iff.mpr z] at h; cases h
  rw [a.len] at hl
  cases q : ρ[i]? with
  | none => rw [List.getElem?_eq_none_iff] at q; omega
  | some o =>
    cases o with
    | none => rfl
    | some r => obtain ⟨r', z⟩ := a.held i r hp q; rw [h] at z; cases z
theorem PinR.trans {P : Nat} {ρ ρ1 ρ2 : DS} {σ σ1 σ2 : St} (a : PinR P ρ σ ρ1 σ1) (b : PinR P ρ1 σ1 ρ2 σ2) : PinR P ρ σ ρ2 σ2 where
  par := fun i hi h => by
    obtain ⟨e1, h1⟩ := a.par i hi h
    obtain ⟨e2, h2⟩ := b.par i hi h1
    exact ⟨e2.trans e1, h2⟩
  held := fun i r hp h => by
    obtain ⟨r1, h1⟩ := a.held i r hp h
    exact b.held i r1 hp h1
  non := fun i hp h => (b.non i hp h).trans (a.non i hp (b.noneBack hp h))
  len := b.len.trans a.len
inductive FL where
  | nx | bk | ct
  | rt (r : RV)
def tDS (K : PySem.W.Frag) (P : Nat) (ρ : DS) (fl : FL) (ρ' : DS) : TS := fun D σ H => ∃ G A, Rep K G H σ ρ A ∧
  match fl with
  | .nx => ∀ σ' G' H' A', Evo G H A G' H' A' → Rep K G' H' σ' ρ' A' → Pin P ρ σ ρ' σ' → D.nx σ' H'
  | .bk => ∀ σ' G' H' A', Evo G H A G' H' A' → Rep K G' H' σ' ρ' A' → Pin P ρ σ ρ' σ' → D.bk σ' H'
  | .ct => ∀ σ' G' H' A', Evo G H A G' H' A' → Rep K G' H' σ' ρ' A' → Pin P ρ σ ρ' σ' → D.ct σ' H'
  | .rt r => ∀ v σ' G' H' A' S, Evo G H A G' H' A' → Rep K G' H' σ' ρ' A' → PinR P ρ σ ρ' σ' → RepV K G' H' v r S → (∀ i, ∀ a ∈ S, a ∉ A' i) → (∀ a ∈ S, H a = none ∨ ∃ i, a ∈ A i) → D.rt v H'
abbrev FS := DS → Option (FL × DS)
def DSt (P : Nat) (X : Cx) (st : Stmt) (f : FS) : Prop := ∀ ρ fl ρ', f ρ = some (fl, ρ') → PS X st (tDS X.K P ρ fl ρ')
def DSs (P : Nat) (X : Cx) (st : List Stmt) (f : FS) : Prop := ∀ ρ fl ρ', f ρ = some (fl, ρ') → PSs X st (tDS X.K P ρ fl ρ')
section
variable {X : Cx} {P : Nat} {st : Stmt} {rest : List Stmt} {f g : FS} {e c : Expr} {fe : FE} {pos : Pos}
theorem PS.imp {t t' : TS} (h : PS X st t) (i : ∀ D σ H, t' D σ H → t D σ H) : PS X st t' := fun pins s σ H D I q => h pins s σ H D I (i D σ H q)
theorem PSs.imp {t t' : TS} (h : PSs X rest t) (i : ∀ D σ H, t' D σ H → t D σ H) : PSs X rest t' := fun pins s σ H D I q => h pins s σ H D I (i D σ H q)
theorem tDS_trans {ρ ρ1 ρ' : DS} {fl : FL} {D : Ends} {σ σ1 : St} {G H G1 H1 : Hp} {A A1 : Ft} (e : Evo G H A G1 H1 A1) (R1 : Rep K G1 H1 σ1 ρ1 A1) (p : Pin P ρ σ ρ1 σ1)
    (k : match fl with
      | .nx => ∀ σ' G' H' A', Evo G H A G' H' A' → Rep K G' H' σ' ρ' A' → Pin P ρ σ ρ' σ' → D.nx σ' H'
      | .bk => ∀ σ' G' H' A', Evo G H A G' H' A' → Rep K G' H' σ' ρ' A' → Pin P ρ σ ρ' σ' → D.bk σ' H'
      | .ct => ∀ σ' G' H' A', Evo G H A G' H' A' → Rep K G' H' σ' ρ' A' → Pin P ρ σ ρ' σ' → D.ct σ' H'
      | .rt r => ∀ v σ' G' H' A' S, Evo G H A G' H' A' → Rep K G' H' σ' ρ' A' → PinR P ρ σ ρ' σ' → RepV K G' H' v r S → (∀ i, ∀ a ∈ S, a ∉ A' i) → (∀ a ∈ S, H a = none ∨ ∃ i, a ∈ A i) → D.rt v H') :
    tDS K P ρ1 fl ρ' D σ1 H1 := by
  refine ⟨G1, A1, R1, ?_⟩
  cases fl with
  | nx => exact fun σ' G' H' A' e' R' p' => k σ' G' H' A' (e.trans e') R' (p.trans p')
  | bk => exact fun σ' G' H' A' e' R' p' => k σ' G' H' A' (e.trans e') R' (p.trans p')
  | ct => exact fun σ' G' H' A' e' R' p' => k σ' G' H' A' (e.trans e') R' (p.trans p')
  | rt r =>
    refine fun v σ' G' H' A' S e' R' p' hr ap fr => k v σ' G' H' A' S (e.trans e') R' (p.toR.trans p') hr ap fun a ha => ?_
    · rcases fr a ha with z | ⟨i, z⟩
      · exact e.back z
      · exact e.foot i a z
def sNext : FS := fun ρ => some (.nx, ρ)
theorem ds_nil : DSs P X [] sNext := by
  intro ρ fl ρ' hf
  cases hf
  exact PSs.imp pss_nil fun D σ H ⟨G, A, R, k⟩ => k σ G H A (Evo.refl _ _ _) R .refl
def sSeq (f g : FS) : FS := fun ρ => (f ρ).bind fun p => match p.1 with
  | .nx => g p.2
  | fl => some (fl, p.2)
theorem ds_cons (h1 : DSt P X st f) (h2 : DSs P X rest g) : DSs P X (st :: rest) (sSeq f g) := by
  intro ρ fl ρ' hf
  unfold sSeq at hf
  obtain ⟨⟨fl1, ρ1⟩, e1, hf⟩ := obi hf
  have never : PSs X rest tNever := pss_never
  cases fl1 with
  | nx => exact PSs.imp (pss_cons (h1 _ _ _ e1) (h2 _ _ _ hf)) fun D σ H ⟨G, A, R, k⟩ => ⟨G, A, R, fun σ1 G1 H1 A1 e R1 p => tDS_trans e R1 p k⟩
  | bk => cases hf; exact PSs.imp (pss_cons (h1 _ _ _ e1) never) fun D σ H h => h
  | ct => cases hf; exact PSs.imp (pss_cons (h1 _ _ _ e1) never) fun D σ H h => h
  | rt r => cases hf; exact PSs.imp (pss_cons (h1 _ _ _ e1) never) fun D σ H h => h
theorem ds_one (h1 : DSt P X st f) : DSs P X [st] f := fun ρ fl ρ' hf => pss_one (h1 _ _ _ hf)
def sExpr (f : FE) : FS := fun ρ => (f ρ).map fun p => (.nx, p.2)
def Kp (P : Nat) (ρ ρ' : DS) : Prop := ρ'.length = ρ.length ∧ ∀ i : Nat, (∀ r : RV, ρ[i]? = some (some r) → ∃ r', ρ'[i]? = some (some r') ∧ (i < P → ownd r' = ownd r)) ∧ (ρ[i]? = some none → ρ'[i]? = some none)
theorem Kp.refl (ρ : DS) : Kp P ρ ρ := ⟨rfl, fun _ => ⟨fun r h => ⟨r, h, fun _ => rfl⟩, fun h => h⟩⟩
theorem Kp.trans {ρ ρ1 ρ2 : DS} (a : Kp P ρ ρ1) (b : Kp P ρ1 ρ2) : Kp P ρ ρ2 := ⟨b.1.trans a.1, fun i => ⟨fun r h => by
  obtain ⟨r1, h1, e1⟩ := (a.2 i).1 r h
  obtain ⟨r2, h2, e2⟩ := (b.2 i).1 r1 h1
  exact ⟨r2, h2, fun hp => (e2 hp).trans (e1 hp)⟩, fun h => (b.2 i).2 ((a.2 i).2 h)⟩⟩
theorem Kp.pin {ρ ρ' : DS} {σ : St} (k : Kp P ρ ρ') : Pin P ρ σ ρ' σ :=
  ⟨fun i hp ⟨r, h, o⟩ => ⟨rfl, let ⟨r', h', o'⟩ := (k.2 i).1 r h; ⟨r', h', (o' hp).trans o⟩⟩, fun i r h => let ⟨r', h', _⟩ := (k.2 i).1 r h; ⟨r', h'⟩, fun i _ => rfl, k.1⟩
class KpE (P : Nat) (f : FE) : Prop where kp : ∀ ρ rr ρ', f ρ = some (rr, ρ') → Kp P ρ ρ'
class KpT (P : Nat) (f : FT) : Prop where kp : ∀ ρ b ρ', f ρ = some (b, ρ') → Kp P ρ ρ'
class KpA (P : Nat) (f : FA) : Prop where kp : ∀ ρ rs ρ', f ρ = some (rs, ρ') → Kp P ρ ρ'
theorem ds_expr (he : DE X e fe) [hk : KpE P fe] (hs : swapsWith e none pos.line X.env = pure false := by rfl) : DSt P X (.Expr e pos) (sExpr fe) := by
  intro ρ fl ρ' hf
  unfold sExpr at hf
  obtain ⟨⟨rr, ρ1⟩, e1, h⟩ := omi hf
  cases h
  exact PS.imp (ps_expr (he _ _ _ e1) hs) fun D σ H ⟨G, A, R, k⟩ => ⟨G, A, R, fun v G1 H1 A1 S e R1 r f1 => k σ G1 H1 A1 e R1 (hk.kp _ _ _ e1).pin⟩
def sRet (P : Nat) (f : FE) : FS := fun ρ => (f ρ).bind fun p => match p.1 with
  | .own r => some (.rt r, p.2)
  | .at i => if i < P then none else (res p.2 (.at i)).map fun r => (.rt r, p.2.set i none)
theorem Rep.out {G H : Hp} {σ : St} {ρ : DS} {A : Ft} {i : Nat} {r : RV} {v : V} (R : Rep K G H σ ρ A) (hr : ρ[i]? = some (some r)) (hv : σ[i]? = some (some v)) :
    Rep K G H σ (ρ.set i none) (fun j => if j = i then [] else A j) ∧ RepV K G H v r (A i) ∧ ∀ j, ∀ a ∈ A i, a ∉ (fun j => if j = i then [] else A j) j := by
  obtain ⟨u, hu, hru⟩ := R.slot i r hr
  rw [hv] at hu
  cases hu
  refine ⟨⟨R.imm, by rw [List.length_set]; exact R.len, fun j q hj => ?_, fun j hj => ?_, fun j k a h1 h2 => ?_⟩, hru, fun j a ha z => ?_⟩
  · by_cases e : i = j
    · subst e
      have hl : i < ρ.length := (List.getElem?_eq_some_iff.mp hr).1
      rw [List.getElem?_set_self hl] at hj; cases hj
    · rw [List.getElem?_set_ne e] at hj
      obtain ⟨w, h1, h2⟩ := R.slot j q hj
      refine ⟨w, h1, ?_⟩
      rw [if_neg (Ne.symm e)]
      exact h2
  · by_cases e : i = j
    · subst e; rw [if_pos rfl]
    · rw [if_neg (Ne.symm e)]
      refine R.emp j fun q hq => hj q ?_
      rw [List.getElem?_set_ne e]; exact hq
  · by_cases ej : j = i
    · subst ej; simp at h1
    · by_cases ek : k = i
      · subst ek; simp at h2
      · simp only [ej, ek, if_false] at h1 h2
        exact R.disj j k a h1 h2
  · by_cases ej : j = i
    · subst ej; simp at z
    · simp only [ej, if_false] at z
      exact ej (R.disj j i a z ha)
theorem ds_ret (he : DE X e fe) [hk : KpE P fe] : DSt P X (.Return (some e) pos) (sRet P fe) := by
  intro ρ fl ρ' hf
  unfold sRet at hf
  obtain ⟨⟨rr, ρ1⟩, e1, h⟩ := obi hf
  cases rr with
  | own r =>
    cases h
    exact PS.imp (ps_ret (he _ _ _ e1)) fun D σ H ⟨G, A, R, k⟩ => ⟨G, A, R, fun v G1 H1 A1 S e R1 r f1 => k v σ G1 H1 A1 S e R1 ((hk.kp _ _ _ e1).pin (P := P) (σ := σ)).toR r.1 r.2 f1⟩
  | «at» i =>
    simp only at h
    split at h
    · cases h
    · next hi =>
      obtain ⟨r, h1, h2⟩ := omi h
      cases h2
      have h1' : ρ1[i]? = some (some r) := by
        have h1 : ρ1[i]?.join = some r := h1
        cases q : ρ1[i]? with
        | none => rw [q] at h1; cases h1
        | some o => rw [q] at h1; cases o with
          | none => cases h1
          | some x => cases h1; rfl
      refine PS.imp (ps_ret (he _ _ _ e1)) fun D σ H ⟨G, A, R, k⟩ => ⟨G, A, R, fun v G1 H1 A1 S e R1 q f1 => ?_⟩
      obtain ⟨_, hv⟩ := q
      obtain ⟨R2, hr, ap⟩ := R1.out h1' hv
      refine k v σ G1 H1 _ (A1 i) ⟨e.le, e.new, e.keep, fun j b hb => ?_⟩ R2 (((hk.kp _ _ _ e1).pin (P := P) (σ := σ)).toR.trans ⟨fun j hj ho => ?_, fun j r' hj hr' => ?_, fun j _ _ => rfl, by rw [List.length_set]⟩) hr ap fun a ha => e.foot i a ha
      · by_cases ej : j = i
        · subst ej; simp at hb
        · simp only [ej, if_false] at hb
          exact e.foot j b hb
      · obtain ⟨r', z2, z3⟩ := ho
        exact ⟨rfl, r', by rw [List.getElem?_set_ne (by omega)]; exact z2, z3⟩
      · exact ⟨r', by rw [List.getElem?_set_ne (by omega)]; exact hr'⟩
def sIf (t : FT) (f g : FS) : FS := fun ρ => (t ρ).bind fun p => if p.1 then f p.2 else g p.2
theorem ds_if {t : FT} {a b : List Stmt} (hc : DT X c t) [hk : KpT P t] (ha : DSs P X a f) (hb : DSs P X b g) : DSt P X (.If c a b pos) (sIf t f g) := by
  intro ρ fl ρ' hf
  unfold sIf at hf
  obtain ⟨⟨k1, ρ1⟩, h1, h⟩ := obi hf
  cases k1 with
  | true => exact PS.imp (ps_if (hc _ _ _ h1) (ha _ _ _ h) pss_never) fun D σ H ⟨G, A, R, k⟩ => ⟨G, A, R, fun G1 H1 A1 e R1 => iteT (tDS_trans e R1 (hk.kp _ _ _ h1).pin k)⟩
  | false => exact PS.imp (ps_if (hc _ _ _ h1) pss_never (hb _ _ _ h)) fun D σ H ⟨G, A, R, k⟩ => ⟨G, A, R, fun G1 H1 A1 e R1 => iteF (tDS_trans e R1 (hk.kp _ _ _ h1).pin k)⟩
open Classical in
noncomputable def setAt (P : Nat) (i : Nat) (r : RV) (ρ : DS) : Option DS := if i < ρ.length ∧ ¬ (i < P ∧ ownAt ρ i) then some (ρ.set i (some r)) else none
theorem setAt_inv {i : Nat} {r : RV} {ρ ρ' : DS} (h : setAt P i r ρ = some ρ') : i < ρ.length ∧ ¬ (i < P ∧ ownAt ρ i) ∧ ρ' = ρ.set i (some r) := by
  unfold setAt at h
  split at h
  · next z => cases h; exact ⟨z.1, z.2, rfl⟩
  · cases h
theorem Rep.store {G H : Hp} {σ : St} {ρ ρ' : DS} {A : Ft} {i : Nat} {r : RV} {v : V} {S : List Addr} (R : Rep K G H σ ρ A) (h : setAt P i r ρ = some ρ') (hr : RepV K G H v r S) (ap : ∀ j, ∀ a ∈ S, a ∉ A j) :
    Rep K G H (σ.set i (some v)) ρ' (fun j => if j = i then S else A j) ∧ Pin P ρ σ ρ' (σ.set i (some v)) := by
  obtain ⟨hl, hp, rfl⟩ := setAt_inv h
  have hls : i < σ.length := by rw [R.len]; exact hl
  refine ⟨⟨R.imm, by rw [List.length_set, List.length_set]; exact R.len, fun j q hj => ?_, fun j hj => ?_, fun j k a h1 h2 => ?_⟩, ⟨fun j hj ho => ?_, fun j q hj => ?_, fun j hj => ?_, by rw [List.length_set]⟩⟩
  · by_cases e : i = j
    · subst e
      rw [List.getElem?_set_self hl] at hj
      cases hj
      refine ⟨v, List.getElem?_set_self hls, ?_⟩
      rw [if_pos rfl]; exact hr
    · rw [List.getElem?_set_ne e] at hj
      obtain ⟨w, h1, h2⟩ := R.slot j q hj
      refine ⟨w, by rw [List.getElem?_set_ne e]; exact h1, ?_⟩
      rw [if_neg (Ne.symm e)]; exact h2
  · by_cases e : i = j
    · subst e; exact absurd (List.getElem?_set_self hl) (hj r)
    · rw [if_neg (Ne.symm e)]
      refine R.emp j fun q hq => hj q ?_
      rw [List.getElem?_set_ne e]; exact hq
  · by_cases ej : j = i
    · by_cases ek : k = i
      · rw [ej, ek]
      · simp only [ej, ek, if_true, if_false] at h1 h2
        exact absurd h2 (ap k a h1)
    · by_cases ek : k = i
      · simp only [ej, ek, if_true, if_false] at h1 h2
        exact absurd h1 (ap j a h2)
      · simp only [ej, ek, if_false] at h1 h2
        exact R.disj j k a h1 h2
  · have e : i ≠ j := fun e => by subst e; exact hp ⟨hj, ho⟩
    refine ⟨by rw [List.getElem?_set_ne e], ?_⟩
    obtain ⟨r', z1, z2⟩ := ho
    exact ⟨r', by rw [List.getElem?_set_ne e]; exact z1, z2⟩
  · by_cases e : i = j
    · subst e; exact ⟨r, List.getElem?_set_self hl⟩
    · exact ⟨q, by rw [List.getElem?_set_ne e]; exact hj⟩
  · by_cases e : i = j
    · subst e; rw [List.getElem?_set_self hl] at hj; cases hj
    · rw [List.getElem?_set_ne e]
theorem Evo.storeA {G H G1 H1 : Hp} {A A1 : Ft} {S : List Addr} {i : Nat} (e : Evo G H A G1 H1 A1) (f : ∀ a ∈ S, H a = none ∨ ∃ i, a ∈ A i) : Evo G H A G1 H1 (fun j => if j = i then S else A1 j) :=
  ⟨e.le, e.new, e.keep, fun j b hb => by
    by_cases ej : j = i
    · simp only [ej, if_true] at hb; exact f b hb
    · simp only [ej, if_false] at hb; exact e.foot j b hb⟩
noncomputable def sSet (P : Nat) (i : Nat) (f : FE) : FS := fun ρ => (f ρ).bind fun p => match p.1 with
  | .own r => (setAt P i r p.2).map fun ρ2 => (.nx, ρ2)
  | .at _ => none
theorem ds_set {i : Nat} {x : Str} {pos' : Pos} (hN : X.N.Nodup) (hi : X.N[i]? = some x := by rfl) (hx : Loc X.env.scope x := by exact Or.inl rfl) (he : DE X e fe) [hk : KpE P fe] (hs : swapsWith e (some (.Name x pos')) pos.line X.env = pure false := by rfl)
    (hf : X.fn x = true ∨ X.env.scope.names.lookup x = some .local := by first | exact .inl rfl | exact .inr rfl | assumption) : DSt P X (.Assign [.Name x pos'] e pos) (sSet P i fe) := by
  intro ρ fl ρ' h
  unfold sSet at h
  obtain ⟨⟨rr, ρ1⟩, e1, h⟩ := obi h
  cases rr with
  | own r =>
    obtain ⟨ρ2, h1, h2⟩ := omi h
    cases h2
    refine PS.imp (ps_set hN hi hx (he _ _ _ e1) hs hf) fun D σ H ⟨G, A, R, k⟩ => ⟨G, A, R, fun v G1 H1 A1 S e R1 q f1 => ?_⟩
    obtain ⟨R2, p2⟩ := R1.store (P := P) h1 q.1 q.2
    exact k _ G1 H1 _ (e.storeA f1) R2 ((hk.kp _ _ _ e1).pin.trans p2)
  | «at» j => cases h
end
section
variable {P : Nat} {fa fb : FE} {ga gb : FA} {ta tb : FT} {g : G2} {gl : GL} {i : Nat} {d : D}
instance : KpE P (fVar i) := ⟨fun ρ rr ρ' h => by
  unfold fVar at h
  split at h
  · cases h; exact Kp.refl _
  · cases h; exact Kp.refl _
  · cases h⟩
instance : KpE P (fC d) := ⟨fun ρ rr ρ' h => by cases h; exact Kp.refl _⟩
instance [ha : KpE P fa] [hb : KpE P fb] : KpE P (f2 g fa fb) := ⟨fun ρ rr ρ' h => by
  obtain ⟨ra, ρ1, rb, x, y, r, h1, h2, _⟩ := f2_inv h
  exact (ha.kp _ _ _ h1).trans (hb.kp _ _ _ h2)⟩
instance [ha : KpE P fa] : KpT P (fT fa) := ⟨fun ρ k ρ' h => by
  obtain ⟨rr, x, h1, _⟩ := fT_inv h
  exact ha.kp _ _ _ h1⟩
instance [ha : KpT P ta] [hb : KpT P tb] : KpT P (fAnd ta tb) := ⟨fun ρ k ρ' h => by
  unfold fAnd at h
  obtain ⟨⟨k1, ρ1⟩, h1, h⟩ := obi h
  cases k1 with
  | true => exact (ha.kp _ _ _ h1).trans (hb.kp _ _ _ h)
  | false => cases h; exact ha.kp _ _ _ h1⟩
instance [ha : KpT P ta] [hb : KpT P tb] : KpT P (fOr ta tb) := ⟨fun ρ k ρ' h => by
  unfold fOr at h
  obtain ⟨⟨k1, ρ1⟩, h1, h⟩ := obi h
  cases k1 with
  | false => exact (ha.kp _ _ _ h1).trans (hb.kp _ _ _ h)
  | true => cases h; exact ha.kp _ _ _ h1⟩
instance [ha : KpT P ta] : KpT P (fNot ta) := ⟨fun ρ k ρ' h => by
  unfold fNot at h
  obtain ⟨⟨k1, ρ1⟩, h1, h⟩ := omi h
  cases h; exact ha.kp _ _ _ h1⟩
instance : KpA P fNil := ⟨fun ρ rs ρ' h => by cases h; exact Kp.refl _⟩
instance [ha : KpE P fa] [hb : KpA P gb] : KpA P (fCons fa gb) := ⟨fun ρ k ρ' h => by
  unfold fCons at h
  obtain ⟨⟨ra, ρ1⟩, h1, h⟩ := obi h
  obtain ⟨⟨rb, ρ2⟩, h2, h⟩ := omi h
  cases h
  exact (ha.kp _ _ _ h1).trans (hb.kp _ _ _ h2)⟩
instance [ha : KpA P ga] : KpE P (fLst ga) := ⟨fun ρ k ρ' h => by
  unfold fLst at h
  obtain ⟨⟨rs, ρ1⟩, h1, h⟩ := obi h
  obtain ⟨xs, h2, h⟩ := obi h
  obtain ⟨ds, h3, h⟩ := obi h
  split at h
  · cases h; exact ha.kp _ _ _ h1
  · cases h⟩
instance [ha : KpA P ga] : KpE P (fCall gl ga) := ⟨fun ρ k ρ' h => by
  obtain ⟨rs, xs, r, h1, _⟩ := fCall_inv h
  exact ha.kp _ _ _ h1⟩
end
end L2.CF
namespace L2.CF
open PySem PySem.Spec PyProof.Rows
variable {K : PySem.W.Frag}
theorem Rep.write {P : Nat} {G H : Hp} {σ : St} {ρ : DS} {A : Ft} {i : Nat} {ds ds' : List D} {a : Addr} {us us' : List V} (R : Rep K G H σ ρ A) (hi : ρ[i]? = some (some (.L ds))) (hv : σ[i]? = some (some (.ref a))) (z : Pus K G us' ds') :
    Rep K G (upd H a (.lst us')) σ (ρ.set i (some (.L ds'))) A ∧ Evo G H A G (upd H a (.lst us')) A ∧ Kp P ρ (ρ.set i (some (.L ds'))) := by
  obtain ⟨u, hu, b, vs, e1, e2, h1, h2, h3⟩ := R.slot i _ hi
  rw [hv] at hu
  cases hu
  cases e1
  have hl : i < ρ.length := (List.getElem?_eq_some_iff.mp hi).1
  have ne : ∀ j, j ≠ i → a ∉ A j := fun j hj hm => hj (R.disj j i a hm (by rw [e2]; simp))
  refine ⟨⟨fun b o q => ?_, by rw [List.length_set]; exact R.len, fun j q hj => ?_, fun j hj => ?_, R.disj⟩, ⟨Le.refl G, fun b o q => .inl q, fun b o q n => ?_, fun j b hb => .inr ⟨j, hb⟩⟩, by rw [List.length_set], fun j => ⟨fun r hr => ?_, fun hr => ?_⟩⟩
  · rw [upd_ne (fun e => by subst e; rw [h2] at q; cases q)]
    exact R.imm b o q
  · by_cases e : i = j
    · subst e
      rw [List.getElem?_set_self hl] at hj
      cases hj
      exact ⟨.ref a, hv, a, us', rfl, e2, upd_same, h2, z⟩
    · rw [List.getElem?_set_ne e] at hj
      obtain ⟨w, g1, g2⟩ := R.slot j q hj
      refine ⟨w, g1, g2.stay (Le.refl G) (fun b hb o q => ?_) fun b hb => g2.gfree hb⟩
      rw [upd_ne (fun e' => by subst e'; exact ne j (Ne.symm e) hb)]
      exact q
  · refine R.emp j fun r hr => ?_
    by_cases e : i = j
    · subst e; exact hj _ (List.getElem?_set_self hl)
    · exact hj r (by rw [List.getElem?_set_ne e]; exact hr)
  · rw [upd_ne (fun e => by subst e; exact n i (by rw [e2]; simp))]
    exact q
  · by_cases e : i = j
    · subst e
      rw [hi] at hr; cases hr
      exact ⟨_, List.getElem?_set_self hl, fun _ => rfl⟩
    · exact ⟨r, by rw [List.getElem?_set_ne e]; exact hr, fun _ => rfl⟩
  · by_cases e : i = j
    · subst e; rw [hi] at hr; cases hr
    · rw [List.getElem?_set_ne e]; exact hr
def slotL (ρ : DS) (i : Nat) : Option (List D) := match ρ[i]? with
  | some (some (.L ds)) => some ds
  | _ => none
theorem slotL_of {ρ : DS} {i : Nat} {ds : List D} (h : slotL ρ i = some ds) : ρ[i]? = some (some (.L ds)) := by
  unfold slotL at h
  split at h
  · next q => cases h; exact q
  · cases h
abbrev GLm := List D → List RV → Option (List D × D)
def rdLm (K : PySem.W.Frag) (ds : List D) (xs : List RV) (ds' : List D) (d : D) : V → List V → Hp → VK → Prop := fun v vs H Q => ∃ G a us, Le G H ∧ v = .ref a ∧ H a = some (.lst us) ∧ G a = none ∧ Pus K G us ds ∧ RepL K G H vs xs ∧
  ∀ w us', Pus K G us' ds' → Pu K G w d → Q w (upd H a (.lst us'))
def LmD (X : Cx) (id : String) (g : GLm) : Prop := ∀ ds xs ds' d, g ds xs = some (ds', d) → MtR X id (rdLm X.K ds xs ds' d)
theorem MtR.imp {X : Cx} {id : String} {r r' : V → List V → Hp → VK → Prop} (h : MtR X id r) (i : ∀ x xs H Q, r' x xs H Q → r x xs H Q) : MtR X id r' := fun pins s σ H x xs v us Q I rx rs q => h pins s σ H x xs v us Q I rx rs (i x xs H Q q)
def fLm (g : GLm) (fo : FE) (fa : FA) : FE := fun ρ => (fo ρ).bind fun p => match p.1 with
  | .at i => (slotL p.2 i).bind fun _ => (fa p.2).bind fun q => (slotL q.2 i).bind fun ds => (resL q.2 q.1).bind fun xs => (g ds xs).map fun r => (.own (.p r.2), q.2.set i (some (.L r.1)))
  | _ => none
theorem fLm_inv {g : GLm} {fo : FE} {fa : FA} {ρ ρ' : DS} {rr : RR} (h : fLm g fo fa ρ = some (rr, ρ')) : ∃ i ρ1 ds0 rs ρ2 ds xs ds' d, fo ρ = some (.at i, ρ1) ∧ slotL ρ1 i = some ds0 ∧ fa ρ1 = some (rs, ρ2) ∧ slotL ρ2 i = some ds ∧ resL ρ2 rs = some xs ∧ g ds xs = some (ds', d) ∧ rr = .own (.p d) ∧ ρ' = ρ2.set i (some (.L ds')) := by
  unfold fLm at h
  obtain ⟨⟨ra, ρ1⟩, h1, h⟩ := obi h
  cases ra with
  | own r => cases h
  | «at» i =>
    obtain ⟨ds0, h2, h⟩ := obi h
    obtain ⟨⟨rs, ρ2⟩, h3, h⟩ := obi h
    obtain ⟨ds, h4, h⟩ := obi h
    obtain ⟨xs, h5, h⟩ := obi h
    obtain ⟨⟨ds', d⟩, h6, h⟩ := omi h
    cases h
    exact ⟨i, ρ1, ds0, rs, ρ2, ds, xs, ds', d, h1, h2, h3, h4, h5, h6, rfl, rfl⟩
section
variable {X : Cx} {o e : Expr} {es : List Expr} {fo fe fi : FE} {fa : FA} {name : Str} {apos cpos pos : Pos} {id : String} {g : GLm} {P : Nat}
theorem lm_ent {ρ ρ1 ρ2 : DS} {i : Nat} {ds0 ds ds' : List D} {rs : List RR} {xs : List RV} {d : D} (h2 : slotL ρ1 i = some ds0) (h4 : slotL ρ2 i = some ds) (h5 : resL ρ2 rs = some xs) {σ : St} {H : Hp} {Q : VK}
    (h : tD K ρ (.own (.p d)) (ρ2.set i (some (.L ds'))) σ H Q) : tBM K "list" (rdLm K ds xs ds' d) (tD K ρ (.at i) ρ1) (tDA K ρ1 rs ρ2) σ H Q := by
  obtain ⟨G, A, R, k⟩ := h
  refine ⟨G, A, R, fun v G1 H1 A1 S e1 R1 q1 f1 => ?_⟩
  obtain ⟨_, hv⟩ := q1
  obtain ⟨u, hu, b, vs, rfl, _, g1, _⟩ := R1.slot i _ (slotL_of h2)
  rw [hv] at hu
  cases hu
  refine ⟨.inl ⟨rfl, _, SqL.of g1⟩, G1, A1, R1, fun ws G2 H2 A2 Ss e2 R2 q2 f2 => ?_⟩
  obtain ⟨u, hu, b', us, rfl, _, g2, g3, g4⟩ := R2.slot i _ (slotL_of h4)
  rw [hv] at hu
  cases hu
  refine ⟨G2, b, us, R2.imm, rfl, g2, g3, g4, repL_of R2 q2 h5, fun w us' z hw => ?_⟩
  obtain ⟨R3, e3, _⟩ := R2.write (P := 0) (us := us) (slotL_of h4) hv z
  exact k w G2 _ A2 [] ((e1.trans e2).trans e3) R3 ⟨⟨rfl, hw⟩, by simp⟩ (by simp)
theorem de_lm (slot : Slot "list" name id) (hty : typeOf (.builtin id) = pure (.type "method_descriptor")) (hm : LmD X id g) (ho : DE X o fo) (ha : DA X (e :: es) fa)
    (hbase : attributeBase o name X.env (eval o X.env) = eval o X.env := by rfl)
    (hfew : ((backTo cpos (starEach (e :: es) X.env)).all (fun x => !x.1) && (backToKw cpos (keywordEach [] X.env)).all (fun x => x.1.isSome)
      && decide ((e :: es).length + ([] : List Keyword).length + (if ([] : List Keyword).isEmpty then 0 else 1) < 30)) = true := by rfl)
    (hline : (apos.endLine == cpos.line) = true := by rfl) (hs : starEach (e :: es) X.env = (false, eval e X.env) :: starEach es X.env := by rfl) (hplain : (backTo cpos (starEach es X.env)).any (·.1) = false := by rfl) :
    DE X (.Call (.Attribute o name apos) (e :: es) [] cpos) (fLm g fo fa) := by
  intro ρ rr ρ' hf
  obtain ⟨i, ρ1, ds0, rs, ρ2, ds, xs, ds', d, h1, h2, h3, h4, h5, h6, rfl, rfl⟩ := fLm_inv hf
  exact PE.imp (pe_bm PySem.F.plainAttrs_list slot hty (hm _ _ _ _ h6) (ho _ _ _ h1) (ha _ _ _ h3) hbase hfew hline hs hplain) fun σ H Q h => lm_ent h2 h4 h5 h
theorem de_lm0 (slot : Slot "list" name id) (hty : typeOf (.builtin id) = pure (.type "method_descriptor")) (hm : LmD X id g) (ho : DE X o fo)
    (hbase : attributeBase o name X.env (eval o X.env) = eval o X.env := by rfl) (hline : (apos.endLine == cpos.line) = true := by rfl) : DE X (.Call (.Attribute o name apos) [] [] cpos) (fLm g fo fNil) := by
  intro ρ rr ρ' hf
  obtain ⟨i, ρ1, ds0, rs, ρ2, ds, xs, ds', d, h1, h2, h3, h4, h5, h6, rfl, rfl⟩ := fLm_inv hf
  cases h3
  cases h5
  refine PE.imp (pe_bm0 PySem.F.plainAttrs_list slot hty (hm _ _ _ _ h6) (ho _ _ _ h1) hbase hline) fun σ H Q h => ?_
  obtain ⟨G, A, R, k⟩ := lm_ent (rs := []) (xs := []) h2 h4 rfl h
  refine ⟨G, A, R, fun v G1 H1 A1 S e1 R1 q1 f1 => ?_⟩
  obtain ⟨ty, G2, A2, R2, k2⟩ := k v G1 H1 A1 S e1 R1 q1 f1
  exact ⟨ty, k2 [] G2 H1 A2 [] (Evo.refl _ _ _) R2 trivial (by simp)⟩
instance [ho : KpE P fo] [ha : KpA P fa] : KpE P (fLm g fo fa) := ⟨fun ρ rr ρ' h => by
  obtain ⟨i, ρ1, ds0, rs, ρ2, ds, xs, ds', d, h1, h2, h3, h4, h5, h6, rfl, rfl⟩ := fLm_inv h
  refine ((ho.kp _ _ _ h1).trans (ha.kp _ _ _ h3)).trans ?_
  have hi := slotL_of h4
  have hl : i < ρ2.length := (List.getElem?_eq_some_iff.mp hi).1
  refine ⟨by rw [List.length_set], fun j => ⟨fun r hr => ?_, fun hr => ?_⟩⟩
  · by_cases e : i = j
    · subst e
      rw [hi] at hr; cases hr
      exact ⟨_, List.getElem?_set_self hl, fun _ => rfl⟩
    · exact ⟨r, by rw [List.getElem?_set_ne e]; exact hr, fun _ => rfl⟩
  · by_cases e : i = j
    · subst e; rw [hi] at hr; cases hr
    · rw [List.getElem?_set_ne e]; exact hr⟩
def gAppend : GLm := fun ds xs => match xs with
  | [.p d] => if ds.length < sizeLine then some (ds ++ [d], .non) else none
  | _ => none
theorem m_append : LmD X "list.append" gAppend := by
  intro ds xs ds' d e
  unfold gAppend at e
  split at e
  · next dd =>
    split at e
    · next hz =>
      cases e
      refine MtR.imp mt_append fun v vs H Q ⟨G, a, us, l, e1, h1, h2, z, rl, q⟩ => ?_
      obtain ⟨w, S, rfl, hw⟩ := rl.one
      exact ⟨a, us, w, e1, rfl, h1, by rw [z.length]; exact hz, q .non _ (z.append (.cons hw.2 .nil)) .non⟩
    · cases e
  · cases e
def gPop : GLm := fun ds xs => match xs with
  | [] => (ds[ds.length - 1]?).map fun d => (ds.dropLast, d)
  | _ => none
theorem m_pop : LmD X "list.pop" gPop := by
  intro ds xs ds' d e
  unfold gPop at e
  split at e
  · obtain ⟨dd, h1, h2⟩ := omi e
    cases h2
    refine MtR.imp mt_pop fun v vs H Q ⟨G, a, us, l, e1, g1, g2, z, rl, q⟩ => ?_
    obtain rfl : vs = [] := by cases vs with | nil => rfl | cons _ _ => exact rl.elim
    obtain ⟨w, hw, pw⟩ := z.get h1
    exact ⟨a, us, w, e1, rfl, g1, by rw [z.length]; exact hw, q w _ z.dropLast pw⟩
  · cases e
def gExtend : GLm := fun ds xs => match xs with
  | [.L l] => if ds.length + l.length ≤ sizeLine then some (ds ++ l, .non) else none
  | _ => none
theorem m_extend : LmD X "list.extend" gExtend := by
  intro ds xs ds' d e
  unfold gExtend at e
  split at e
  · next dd =>
    split at e
    · next hz =>
      cases e
      refine MtR.imp mt_extend fun v vs H Q ⟨G, a, us, l, e1, h1, h2, z, rl, q⟩ => ?_
      obtain ⟨w, S, rfl, b, ws, rfl, _, g1, g2, z2⟩ := rl.one
      exact ⟨a, b, us, ws, e1, rfl, h1, g1, by rw [z.length, z2.length]; exact hz, q .non _ (z.append z2) .non⟩
    · cases e
  · cases e
def sSetL (fe fo fi : FE) : FS := fun ρ => (fe ρ).bind fun p => match p.1 with
  | .own (.p d) => (fo p.2).bind fun q => match q.1 with
    | .at i => (fi q.2).bind fun t => match t.1 with
      | .own (.p (.int k)) => (slotL t.2 i).bind fun ds => (ixN ds.length k).map fun j => (.nx, t.2.set i (some (.L (ds.set j d))))
      | _ => none
    | _ => none
  | _ => none
theorem ds_setL (he : DE X e fe) {ix : Expr} {pt : Pos} (ho : DE X o fo) (hi : DE X ix fi) [k1 : KpE P fe] [k2 : KpE P fo] [k3 : KpE P fi] (hs : swapsWithSole [.Subscript o ix pt] e pos.line X.env = pure false := by rfl) (hw : swappedStores [.Subscript o ix pt] e X.env = pure none := by rfl)
    (h1 : (assignEach [.Subscript o ix pt] X.env).map (·.2) = [assign (.Subscript o ix pt) X.env] := by rfl)
    (ha : ∀ v, assign (.Subscript o ix pt) X.env v = (do
      let ov ← holding [v] (eval o X.env)
      let iv ← holding [v, ov] (eval ix X.env)
      standAt pt
      holding [v, ov, iv] (setItem ov iv v)
      release [v, ov, iv] []) := by intro _; rfl) : DSt P X (.Assign [.Subscript o ix pt] e pos) (sSetL fe fo fi) := by
  intro ρ fl ρ' hf
  unfold sSetL at hf
  obtain ⟨⟨ra, ρ1⟩, e1, hf⟩ := obi hf
  match ra, e1, hf with
  | .own (.p d), e1, hf =>
    obtain ⟨⟨rb, ρ2⟩, e2, hf⟩ := obi hf
    match rb, e2, hf with
    | .at i, e2, hf =>
      obtain ⟨⟨rc, ρ3⟩, e3, hf⟩ := obi hf
      match rc, e3, hf with
      | .own (.p (.int k)), e3, hf =>
        obtain ⟨ds, e4, hf⟩ := obi hf
        obtain ⟨j, e5, hf⟩ := omi hf
        cases hf
        refine PS.imp (ps_asg (he _ _ _ e1) (pg_sub (ho _ _ _ e2) (hi _ _ _ e3) set_list ha) hs hw h1) fun D σ H ⟨G, A, R, kk⟩ => ?_
        refine ⟨G, A, R, fun v G1 H1 A1 S1 v1 R1 q1 f1 => ⟨G1, A1, R1, fun vo G2 H2 A2 S2 v2 R2 q2 f2 => ⟨G2, A2, R2, fun vi G3 H3 A3 S3 v3 R3 q3 f3 => ?_⟩⟩⟩
        obtain ⟨_, hv⟩ := q2
        obtain ⟨u, hu, b, us, rfl, _, g1, g2, g3⟩ := R3.slot i _ (slotL_of e4)
        rw [hv] at hu
        cases hu
        obtain ⟨_, pd⟩ := q1.1
        have pd' : Pu X.K G3 v d := pd.mono (v2.trans v3).le
        obtain ⟨R4, v4, k4⟩ := R3.write (P := P) (us := us) (slotL_of e4) hv (g3.set pd' j)
        refine ⟨b, us, k, j, rfl, pu_int q3.1, g1, by rw [g3.length]; exact e5, ?_⟩
        exact kk σ G3 _ A3 (((v1.trans v2).trans v3).trans v4) R4 ((((k1.kp _ _ _ e1).trans (k2.kp _ _ _ e2)).trans (k3.kp _ _ _ e3)).trans k4).pin
end
end L2.CF
namespace L2.CF
open PySem PySem.Spec PyProof.Rows
variable {K : PySem.W.Frag}
structure Src (K : PySem.W.Frag) (J : It) (ds : List D) (S : List Addr) (Sc : Hp → Hp → Prop) : Prop where
  go : ∀ i d G H, Le G H → Sc G H → ds[i]? = some d → J.go i H ∧ ∀ x H', J.yld i H x H' → ∃ G', Al G H G' H' ∧ Pu K G' x d
  stop : ∀ i G H, Le G H → Sc G H → ds.length ≤ i → J.stop i H
  evo : ∀ G H A G' H' A', Evo G H A G' H' A' → (∀ i, ∀ a ∈ S, a ∉ A i) → Sc G H → Sc G' H'
  there : ∀ G H, Sc G H → ∀ a ∈ S, ∃ o, H a = some o
abbrev Bk := Option (Nat × RV)
def BkOk (K : PySem.W.Frag) (S : List Addr) (Sc : Hp → Hp → Prop) (σ : St) : Bk → Prop
  | none => True
  | some (j, r) => ∃ v, σ[j]? = some (some v) ∧ ∀ G H, Sc G H → RepV K G H v r S
def tDI (K : PySem.W.Frag) (ρ : DS) (ds : List D) (bk : Bk) (ρ' : DS) : TI := fun σ H R => ∃ G A, Rep K G H σ ρ A ∧ ∀ J G' H' A' S Sc, Evo G H A G' H' A' → Rep K G' H' σ ρ' A' → Src K J ds S Sc → Sc G' H' → (∀ i, ∀ a ∈ S, a ∉ A' i) → (∀ a ∈ S, H a = none ∨ ∃ i, a ∈ A i) → BkOk K S Sc σ bk → R J H'
abbrev FI := DS → Option (List D × Bk × DS)
def DI (X : Cx) (tg iter : Expr) (f : FI) : Prop := ∀ ρ ds bk ρ', f ρ = some (ds, bk, ρ') → PI X tg iter (tDI X.K ρ ds bk ρ')
theorem PI.imp {X : Cx} {tg iter : Expr} {t t' : TI} (h : PI X tg iter t) (i : ∀ σ H R, t' σ H R → t σ H R) : PI X tg iter t' := fun pins s σ H R I q => h pins s σ H R I (i σ H R q)
def fiSeq (f : FE) : FI := fun ρ => (f ρ).bind fun p => match p.1 with
  | .own r => (items r).map fun ds => (ds, none, p.2)
  | .at i => (slotL p.2 i).map fun ds => (ds, some (i, .L ds), p.2.set i none)
theorem src_list {a : Addr} {ds : List D} {r : RV} {S : List Addr} (hl : itemsL r = some ds) : Src K (Itl K a) ds S (fun G H => RepV K G H (.ref a) r S) where
  go := fun i d G H l h hd => by
    obtain ⟨a', vs, e, sq, z⟩ := itemsL_of l h hl
    cases e
    obtain ⟨v, hv, pv⟩ := z.get hd
    refine ⟨⟨vs, v, sq, hv⟩, fun x H' ⟨e, y⟩ => ?_⟩
    subst e
    have q := y vs sq
    rw [hv] at q
    cases q
    exact ⟨G, Al.refl l, pv⟩
  stop := fun i G H l h hd => by
    obtain ⟨a', vs, e, sq, z⟩ := itemsL_of l h hl
    cases e
    exact ⟨vs, sq, by rw [z.length]; exact hd⟩
  evo := fun G H A G' H' A' e d h => e.held h d
  there := fun G H h a ha => h.there ha
theorem src_tup {a : Addr} {ds : List D} {r : RV} {S : List Addr} (hl : itemsT r = some ds) : Src K (Itt K a) ds S (fun G H => RepV K G H (.ref a) r S) where
  go := fun i d G H l h hd => by
    obtain ⟨a', vs, e, sq, z⟩ := itemsT_of l h hl
    cases e
    obtain ⟨v, hv, pv⟩ := z.get hd
    refine ⟨⟨vs, v, sq, hv⟩, fun x H' ⟨e, y⟩ => ?_⟩
    subst e
    have q := y vs sq
    rw [hv] at q
    cases q
    exact ⟨G, Al.refl l, pv⟩
  stop := fun i G H l h hd => by
    obtain ⟨a', vs, e, sq, z⟩ := itemsT_of l h hl
    cases e
    exact ⟨vs, sq, by rw [z.length]; exact hd⟩
  evo := fun G H A G' H' A' e d h => e.held h d
  there := fun G H h a ha => h.there ha
theorem src_range {lo : Int} {n : Nat} : Src K (Itr lo n) ((List.range n).map fun (i : Nat) => D.int (lo + i)) [] (fun _ _ => True) where
  go := fun i d G H l h hd => by
    rw [List.getElem?_map] at hd
    cases q : (List.range n)[i]? with
    | none => rw [q] at hd; cases hd
    | some m =>
      rw [q] at hd
      cases hd
      obtain ⟨h1, h2⟩ := List.getElem?_eq_some_iff.mp q
      rw [List.length_range] at h1
      rw [List.getElem_range] at h2
      subst h2
      refine ⟨h1, fun x H' ⟨e, y⟩ => ?_⟩
      subst e y
      exact ⟨G, Al.refl l, .int⟩
  stop := fun i G H l h hd => by
    rw [List.length_map, List.length_range] at hd
    exact hd
  evo := fun G H A G' H' A' e d h => trivial
  there := fun G H h a ha => by simp at ha
theorem ResL.one {G H : Hp} {σ : St} {A : Ft} {vs : List V} {r : RR} {Ss : List (List Addr)} (h : ResL K G H σ A vs [r] Ss) : ∃ v S, vs = [v] ∧ Ss = [S] ∧ ResOf K G H σ A v r S := by
  match vs, Ss, h with
  | [], _, h => exact h.elim
  | [_], [], h => exact h.elim
  | [v], [S], ⟨h, _, _⟩ => exact ⟨v, S, rfl, rfl, h⟩
  | [_], _ :: _ :: _, ⟨_, _, h⟩ => exact h.elim
  | _ :: _ :: _, [], h => exact h.elim
  | _ :: _ :: _, _ :: _, ⟨_, _, h⟩ => exact h.elim
theorem Pus.pair {G : Hp} {vs : List V} {x y : D} (h : Pus K G vs [x, y]) : ∃ v w, vs = [v, w] ∧ Pu K G v x ∧ Pu K G w y := by
  cases h with
  | cons h1 h =>
    cases h with
    | cons h2 h =>
      cases h
      exact ⟨_, _, rfl, h1, h2⟩
section
variable {X : Cx} {P : Nat} {tg iter : Expr} {e : Expr} {es : List Expr} {fe : FE} {fa : FA} {pos p : Pos}
theorem di_seq (he : DE X iter fe) : DI X tg iter (fiSeq fe) := by
  intro ρ ds bk ρ' hf
  unfold fiSeq at hf
  obtain ⟨⟨rr, ρ1⟩, e1, hf⟩ := obi hf
  cases rr with
  | own r =>
    obtain ⟨ds', h1, h2⟩ := omi hf
    cases h2
    unfold items at h1
    cases q : itemsL r with
    | some x =>
      rw [q] at h1; cases h1
      refine PI.imp (pi_list (he _ _ _ e1)) fun σ H R ⟨G, A, Re, k⟩ => ⟨G, A, Re, fun v G1 H1 A1 S v1 R1 q1 f1 => ?_⟩
      obtain ⟨a, vs, rfl, sq, z⟩ := itemsL_of R1.imm q1.1 q
      exact ⟨a, rfl, ⟨vs, sq⟩, k _ G1 H1 A1 S _ v1 R1 (src_list q) q1.1 q1.2 f1 trivial⟩
    | none =>
      rw [q] at h1
      have h1 : itemsT r = some ds := h1
      refine PI.imp (pi_tup (he _ _ _ e1)) fun σ H R ⟨G, A, Re, k⟩ => ⟨G, A, Re, fun v G1 H1 A1 S v1 R1 q1 f1 => ?_⟩
      obtain ⟨a, vs, rfl, sq, z⟩ := itemsT_of R1.imm q1.1 h1
      exact ⟨a, rfl, ⟨vs, sq⟩, k _ G1 H1 A1 S _ v1 R1 (src_tup h1) q1.1 q1.2 f1 trivial⟩
  | «at» i =>
    obtain ⟨ds', h1, h2⟩ := omi hf
    cases h2
    refine PI.imp (pi_list (he _ _ _ e1)) fun σ H R ⟨G, A, Re, k⟩ => ⟨G, A, Re, fun v G1 H1 A1 S v1 R1 q1 f1 => ?_⟩
    obtain ⟨_, hv⟩ := q1
    obtain ⟨R2, hr, ap⟩ := R1.out (slotL_of h1) hv
    obtain ⟨a, vs, rfl, sq, z⟩ := itemsL_of R1.imm hr rfl
    refine ⟨a, rfl, ⟨vs, sq⟩, k _ G1 H1 _ (A1 i) _ ⟨v1.le, v1.new, v1.keep, fun j b hb => ?_⟩ R2 (src_list rfl) hr ap (fun b hb => v1.foot i b hb) ⟨_, hv, fun G H h => h⟩⟩
    by_cases ej : j = i
    · subst ej; simp at hb
    · simp only [ej, if_false] at hb
      exact v1.foot j b hb
def fiRange1 (f : FA) : FI := fun ρ => (f ρ).bind fun p => match p.1 with
  | [.own (.p (.int j))] => if -(2 ^ 62) ≤ j ∧ j < 2 ^ 62 then some ((List.range j.toNat).map fun (i : Nat) => D.int i, none, p.2) else none
  | _ => none
theorem di_range1 {a : Expr} (hg : Gl X "range") (hm : X.mg "range" = none) (ha : DA X [a] fa) (hs : starEach [a] X.env = [(false, eval a X.env)] := by rfl) : DI X tg (.Call (.Name "range" p) [a] [] pos) (fiRange1 fa) := by
  intro ρ ds bk ρ' hf
  unfold fiRange1 at hf
  obtain ⟨⟨rs, ρ1⟩, e1, hf⟩ := obi hf
  match rs, e1, hf with
  | [.own (.p (.int j))], e1, hf =>
    simp only at hf
    split at hf
    · next hz =>
      cases hf
      refine PI.imp (pi_range1 hg hm (ha _ _ _ e1) hs) fun σ H R ⟨G, A, Re, k⟩ => ⟨G, A, Re, fun vs G1 H1 A1 Ss v1 R1 q1 f1 => ?_⟩
      obtain ⟨v, S, rfl, rfl, ⟨_, hv⟩, _⟩ := q1.one
      cases hv
      have es : Src X.K (Itr 0 j.toNat) ((List.range j.toNat).map fun (i : Nat) => D.int i) [] (fun _ _ => True) := by
        have z := src_range (K := X.K) (lo := 0) (n := j.toNat)
        simpa using z
      exact ⟨j, rfl, hz.1, hz.2, k _ G1 H1 A1 [] _ v1 R1 es trivial (by simp) (by simp) trivial⟩
    · cases hf
def tDG (K : PySem.W.Frag) (P : Nat) (d : D) (ρ ρ' : DS) : TG := fun v σ H Q => ∃ G A, Rep K G H σ ρ A ∧ Pu K G v d ∧ ∀ σ' G' H' A', Evo G H A G' H' A' → Rep K G' H' σ' ρ' A' → Pin P ρ σ ρ' σ' → Q σ' H'
abbrev FG := D → DS → Option DS
def DG (P : Nat) (X : Cx) (tg : Expr) (f : FG) : Prop := ∀ d ρ ρ', f d ρ = some ρ' → PG X tg (tDG X.K P d ρ ρ')
theorem PG.imp {t t' : TG} (h : PG X tg t) (i : ∀ v σ H Q, t' v σ H Q → t v σ H Q) : PG X tg t' := fun pins s σ H v u Q I r q => h pins s σ H v u Q I r (i v σ H Q q)
noncomputable def gName' (P i : Nat) : FG := fun d ρ => setAt P i (.p d) ρ
theorem dg_name {i : Nat} {x : Str} (hN : X.N.Nodup) (hi : X.N[i]? = some x := by rfl) (hx : Loc X.env.scope x := by exact Or.inl rfl) (hf : X.fn x = true ∨ X.env.scope.names.lookup x = some .local := by first | exact .inl rfl | exact .inr rfl | assumption) :
    DG P X (.Name x pos) (gName' P i) := by
  intro d ρ ρ' h
  refine PG.imp (pg_name hN hi hx hf) fun v σ H Q ⟨G, A, R, z, k⟩ => ?_
  obtain ⟨R2, p2⟩ := R.store (P := P) (S := []) (v := v) h ⟨rfl, z⟩ (by simp)
  exact k _ G H _ ((Evo.refl G H A).storeA (by simp)) R2 p2
def gPair (f g : FG) : FG := fun d ρ => match d with
  | .tup [x, y] => (f x ρ).bind (g y)
  | _ => none
theorem dg_pair {a b : Expr} {f g : FG} {k : Nat} (hc : X.calm = true) (ha : DG P X a f) (hb : DG P X b g) (h1 : (assignEach [a, b] X.env).map (·.2) = assign a X.env :: (assignEach [b] X.env).map (·.2) := by rfl) (h2 : (assignEach [b] X.env).map (·.2) = assign b X.env :: (assignEach [] X.env).map (·.2) := by rfl)
    (hn : (assignEach [a, b] X.env).length = 2 := by rfl) (hst : (assignEach [a, b] X.env).findIdx? (·.1) = none := by rfl) : DG P X (.Tuple [a, b] k pos) (gPair f g) := by
  intro d ρ ρ' h
  unfold gPair at h
  match d, h with
  | .tup [x, y], h =>
    obtain ⟨ρ1, e1, e2⟩ := obi h
    refine PG.imp (pg_tup (n := 2) hc (pgs_cons (ha _ _ _ e1) (pgs_cons (hb _ _ _ e2) pgs_nil h2) h1) hn hst) fun v σ H Q ⟨G, A, R, z, kk⟩ => ?_
    cases z with
    | @tup a vs _ sq zs =>
      obtain ⟨w1, w2, rfl, z1, z2⟩ := zs.pair
      have fin : ∀ σ1 G1 H1 A1, Evo G H A G1 H1 A1 → Rep X.K G1 H1 σ1 ρ1 A1 → Pin P ρ σ ρ1 σ1 → tDG X.K P y ρ1 ρ' w2 σ1 H1 (fun σ2 H2 => gNil [] σ2 H2 Q) := fun σ1 G1 H1 A1 v1 R1 p1 =>
        ⟨G1, A1, R1, z2.mono v1.le, fun σ2 G2 H2 A2 v2 R2 p2 => ⟨rfl, kk σ2 G2 H2 A2 (v1.trans v2) R2 (p1.trans p2)⟩⟩
      exact ⟨a, [w1, w2], rfl, sqT_mono R.imm sq, rfl, w1, [w2], rfl, G, A, R, z1, fun σ1 G1 H1 A1 v1 R1 p1 => ⟨w2, [], rfl, fin σ1 G1 H1 A1 v1 R1 p1⟩⟩
def forD (asg : FG) (body : FS) : List D → DS → Option (FL × DS)
  | [], ρ => some (.nx, ρ)
  | d :: ds, ρ => (asg d ρ).bind fun ρa => (body ρa).bind fun q => match q.1 with
    | .nx => forD asg body ds q.2
    | .ct => forD asg body ds q.2
    | .bk => some (.nx, q.2)
    | .rt r => some (.rt r, q.2)
open Classical in
noncomputable def sFor (P : Nat) (fi : FI) (asg : FG) (body : FS) : FS := fun ρ => (fi ρ).bind fun p => (forD asg body p.1 p.2.2).bind fun q => match p.2.1 with
  | none => some q
  | some (j, r) => match q.1 with
    | .rt _ => if j < P then (if q.2[j]? = some none then some (q.1, q.2.set j (some r)) else none) else some q
    | _ => if q.2[j]? = some none then some (q.1, q.2.set j (some r)) else none
theorem Rep.back {G H : Hp} {σ : St} {ρ : DS} {A : Ft} {j : Nat} {r : RV} {v : V} {S : List Addr} (R : Rep K G H σ ρ A) (hj : ρ[j]? = some none) (hv : σ[j]? = some (some v)) (hr : RepV K G H v r S) (ap : ∀ i, ∀ a ∈ S, a ∉ A i) :
    Rep K G H σ (ρ.set j (some r)) (fun i => if i = j then S else A i) := by
  have hl : j < ρ.length := (List.getElem?_eq_some_iff.mp hj).1
  refine ⟨R.imm, by rw [List.length_set]; exact R.len, fun i q hi => ?_, fun i hi => ?_, fun i k a h1 h2 => ?_⟩
  · by_cases e : j = i
    · subst e
      rw [List.getElem?_set_self hl] at hi
      cases hi
      exact ⟨v, hv, by rw [if_pos rfl]; exact hr⟩
    · rw [List.getElem?_set_ne e] at hi
      obtain ⟨w, h1, h2⟩ := R.slot i q hi
      exact ⟨w, h1, by rw [if_neg (Ne.symm e)]; exact h2⟩
  · by_cases e : j = i
    · subst e; exact absurd (List.getElem?_set_self hl) (hi r)
    · rw [if_neg (Ne.symm e)]
      refine R.emp i fun q hq => hi q ?_
      rw [List.getElem?_set_ne e]; exact hq
  · by_cases ei : i = j
    · by_cases ek : k = j
      · rw [ei, ek]
      · simp only [ei, ek, if_true, if_false] at h1 h2
        exact absurd h2 (ap k a h1)
    · by_cases ek : k = j
      · simp only [ei, ek, if_true, if_false] at h1 h2
        exact absurd h1 (ap i a h2)
      · simp only [ei, ek, if_false] at h1 h2
        exact R.disj i k a h1 h2
def tAll (K : PySem.W.Frag) (P : Nat) (f : FS) : TS := fun D σ H => ∃ ρ fl ρ', f ρ = some (fl, ρ') ∧ tDS K P ρ fl ρ' D σ H
theorem DSs.all {st : List Stmt} {f : FS} (h : DSs P X st f) : PSs X st (tAll X.K P f) := fun pins s σ H D I ⟨ρ, fl, ρ', e, q⟩ => h ρ fl ρ' e pins s σ H D I q
def tAllG (K : PySem.W.Frag) (P : Nat) (f : FG) : TG := fun v σ H Q => ∃ d ρ ρ', f d ρ = some ρ' ∧ tDG K P d ρ ρ' v σ H Q
theorem DG.all {f : FG} (h : DG P X tg f) : PG X tg (tAllG X.K P f) := fun pins s σ H v u Q I r ⟨d, ρ, ρ', e, q⟩ => h d ρ ρ' e pins s σ H v u Q I r q
theorem Src.apart {J : It} {ds : List D} {S : List Addr} {Sc : Hp → Hp → Prop} (src : Src K J ds S Sc) {G H G' H' : Hp} {A A' : Ft} (v : Evo G H A G' H' A') (sc : Sc G H) (ap : ∀ i, ∀ a ∈ S, a ∉ A i) : ∀ i, ∀ a ∈ S, a ∉ A' i := fun i a ha z => by
  rcases v.foot i a z with q | ⟨j, q⟩
  · obtain ⟨o, q'⟩ := src.there G H sc a ha
    rw [q] at q'; cases q'
  · exact ap j a ha q
theorem for_core {J : It} {ds : List D} {S : List Addr} {Sc : Hp → Hp → Prop} {asg : FG} {body : FS} {D : Ends} {ρ1 : DS} {σ : St} {G H : Hp} {A : Ft} {fl : FL} {ρ2 : DS} (src : Src K J ds S Sc) (R : Rep K G H σ ρ1 A) (sc : Sc G H) (ap : ∀ i, ∀ a ∈ S, a ∉ A i)
    (hf : forD asg body ds ρ1 = some (fl, ρ2))
    (kn : fl = .nx → ∀ σ' G' H' A', Evo G H A G' H' A' → Rep K G' H' σ' ρ2 A' → Pin P ρ1 σ ρ2 σ' → Sc G' H' → (∀ i, ∀ a ∈ S, a ∉ A' i) → D.nx σ' H')
    (kr : ∀ r, fl = .rt r → ∀ v σ' G' H' A' T, Evo G H A G' H' A' → Rep K G' H' σ' ρ2 A' → PinR P ρ1 σ ρ2 σ' → RepV K G' H' v r T → (∀ i, ∀ a ∈ T, a ∉ A' i) → (∀ a ∈ T, H a = none ∨ ∃ i, a ∈ A i) → Sc G' H' → (∀ i, ∀ a ∈ S, a ∉ A' i) → D.rt v H') :
    ∃ W : Nat → Nat → St → Hp → Prop, (∃ m, W 0 m σ H) ∧ ∀ i m σ H, W i m σ H →
      (J.stop i H ∧ D.nx σ H) ∨ (J.go i H ∧ ∃ N : St → Hp → Prop, (∀ σ' H', N σ' H' → ∃ m', m' < m ∧ W (i + 1) m' σ' H') ∧ ∀ x H', J.yld i H x H' → tAllG K P asg x σ H' fun σ2 H2 => tAll K P body { D with nx := N, ct := N, bk := D.nx } σ2 H2) := by
  refine ⟨fun i m σ' H' => m = ds.length - i ∧ i ≤ ds.length ∧ ∃ G' A' ρi, Evo G H A G' H' A' ∧ Rep K G' H' σ' ρi A' ∧ Pin P ρ1 σ ρi σ' ∧ Sc G' H' ∧ (∀ i, ∀ a ∈ S, a ∉ A' i) ∧ forD asg body (ds.drop i) ρi = some (fl, ρ2),
    ⟨ds.length, by simp, Nat.zero_le _, G, A, ρ1, Evo.refl _ _ _, R, .refl, sc, ap, by rw [List.drop_zero]; exact hf⟩, ?_⟩
  rintro i m σ1 H1 ⟨rfl, hi, G1, A1, ρi, v1, R1, p1, sc1, ap1, hf1⟩
  by_cases hlt : i < ds.length
  · have hd : ds[i]? = some ds[i] := List.getElem?_eq_getElem hlt
    rw [List.drop_eq_getElem_cons hlt] at hf1
    simp only [forD] at hf1
    obtain ⟨ρa, ha, hf1⟩ := obi hf1
    obtain ⟨⟨fl1, ρb⟩, hb, hf1⟩ := obi hf1
    obtain ⟨go, yl⟩ := src.go i _ G1 H1 R1.imm sc1 hd
    refine .inr ⟨go, fun σ' H' => ∃ G' A', Evo G H A G' H' A' ∧ Rep K G' H' σ' ρb A' ∧ Pin P ρ1 σ ρb σ' ∧ Sc G' H' ∧ (∀ i, ∀ a ∈ S, a ∉ A' i) ∧ forD asg body (ds.drop (i + 1)) ρb = some (fl, ρ2),
      fun σ' H' ⟨G', A', h1, h2, h3, h4, h5, h6⟩ => ⟨ds.length - (i + 1), by omega, rfl, hlt, G', A', ρb, h1, h2, h3, h4, h5, h6⟩, fun x H' y => ?_⟩
    obtain ⟨G2, al, px⟩ := yl x H' y
    have v2 : Evo G1 H1 A1 G2 H' A1 := al.evo
    have sc2 := src.evo _ _ _ _ _ _ v2 ap1 sc1
    refine ⟨ds[i], ρi, ρa, ha, G2, A1, al.rep R1, px, fun σ3 G3 H3 A3 v3 R3 p3 => ⟨ρa, fl1, ρb, hb, G3, A3, R3, ?_⟩⟩
    have v13 := (v1.trans v2).trans v3
    have sc3 := src.evo _ _ _ _ _ _ v3 ap1 sc2
    have ap3 := src.apart v3 sc2 ap1
    cases fl1 with
    | nx => exact fun σ4 G4 H4 A4 v4 R4 p4 => ⟨G4, A4, v13.trans v4, R4, (p1.trans p3).trans p4, src.evo _ _ _ _ _ _ v4 ap3 sc3, src.apart v4 sc3 ap3, hf1⟩
    | ct => exact fun σ4 G4 H4 A4 v4 R4 p4 => ⟨G4, A4, v13.trans v4, R4, (p1.trans p3).trans p4, src.evo _ _ _ _ _ _ v4 ap3 sc3, src.apart v4 sc3 ap3, hf1⟩
    | bk =>
      cases hf1
      exact fun σ4 G4 H4 A4 v4 R4 p4 => kn rfl σ4 G4 H4 A4 (v13.trans v4) R4 ((p1.trans p3).trans p4) (src.evo _ _ _ _ _ _ v4 ap3 sc3) (src.apart v4 sc3 ap3)
    | rt r =>
      cases hf1
      refine fun v σ4 G4 H4 A4 T v4 R4 p4 hr ap4 fr => kr r rfl v σ4 G4 H4 A4 T (v13.trans v4) R4 ((p1.trans p3).toR.trans p4) hr ap4 (fun a ha => ?_) (src.evo _ _ _ _ _ _ v4 ap3 sc3) (src.apart v4 sc3 ap3)
      rcases fr a ha with z | ⟨j, z⟩
      · exact v13.back z
      · exact v13.foot j a z
  · have e : ds.drop i = [] := List.drop_eq_nil_of_le (by omega)
    rw [e] at hf1
    cases hf1
    exact .inl ⟨src.stop i G1 H1 R1.imm sc1 (by omega), kn rfl σ1 G1 H1 A1 v1 R1 p1 sc1 ap1⟩
class KpI (P : Nat) (f : FI) : Prop where kp : ∀ ρ ds bk ρ', f ρ = some (ds, bk, ρ') → match bk with
  | none => Kp P ρ ρ'
  | some (j, r) => ∃ ρ1, Kp P ρ ρ1 ∧ ρ1[j]? = some (some r) ∧ ownd r = true ∧ ρ' = ρ1.set j none
instance [h : KpE P fe] : KpI P (fiSeq fe) := ⟨fun ρ ds bk ρ' hf => by
  unfold fiSeq at hf
  obtain ⟨⟨rr, ρ1⟩, e1, hf⟩ := obi hf
  cases rr with
  | own r =>
    obtain ⟨ds', h1, h2⟩ := omi hf
    cases h2
    exact h.kp _ _ _ e1
  | «at» i =>
    obtain ⟨ds', h1, h2⟩ := omi hf
    cases h2
    exact ⟨ρ1, h.kp _ _ _ e1, slotL_of h1, rfl, rfl⟩⟩
instance [h : KpA P fa] : KpI P (fiRange1 fa) := ⟨fun ρ ds bk ρ' hf => by
  unfold fiRange1 at hf
  obtain ⟨⟨rs, ρ1⟩, e1, hf⟩ := obi hf
  split at hf
  · split at hf
    · cases hf; exact h.kp _ _ _ e1
    · cases hf
  · cases hf⟩
theorem ds_for {fi : FI} {asg : FG} {body : List Stmt} {f : FS} (hp : PassesOwn (model X.prog X.w) X.A X.env X.xe) (hc : X.calm = true) (hi : DI X tg iter fi) [ki : KpI P fi] (hg : DG P X tg asg) (hb : DSs P X body f)
    (hs : ∀ x, foldedSetIterable iter X.env x = pure x := by intro _; rfl) : DSt P X (.For tg iter body [] pos) (sFor P fi asg f) := by
  intro ρ fl ρ' hf
  unfold sFor at hf
  obtain ⟨⟨ds, bk, ρ1⟩, e1, hf⟩ := obi hf
  obtain ⟨⟨fl2, ρ2⟩, e2, hf⟩ := obi hf
  have kp := ki.kp _ _ _ _ e1
  refine PS.imp (ps_for hp hc (hi _ _ _ _ e1) hg.all hb.all hs) fun D σ H ⟨G, A, R, k⟩ => ⟨G, A, R, fun J G1 H1 A1 S Sc v1 R1 src sc ap fr ok => ?_⟩
  cases bk with
  | none =>
    cases hf
    have kp : Kp P ρ ρ1 := kp
    refine for_core (P := P) src R1 sc ap e2 (fun e => ?_) (fun r e => ?_)
    · subst e
      exact fun σ' G' H' A' v R' p _ _ => k σ' G' H' A' (v1.trans v) R' (kp.pin.trans p)
    · subst e
      refine fun v σ' G' H' A' T v' R' p hr ap' f' _ _ => k v σ' G' H' A' T (v1.trans v') R' (kp.pin.toR.trans p) hr ap' fun a ha => ?_
      rcases f' a ha with z | ⟨i, z⟩
      · exact v1.back z
      · exact v1.foot i a z
  | some jr =>
    obtain ⟨j, r⟩ := jr
    obtain ⟨ρ0, k0, hj0, ho, rfl⟩ := kp
    obtain ⟨v, hv, hr⟩ := ok
    have hl0 : j < ρ0.length := (List.getElem?_eq_some_iff.mp hj0).1
    have nxt : ∀ (hj : ρ2[j]? = some none) (kk : ∀ σ' G' H' A', Evo G H A G' H' A' → Rep X.K G' H' σ' (ρ2.set j (some r)) A' → Pin P ρ σ (ρ2.set j (some r)) σ' → D.nx σ' H'), ∀ σ' G' H' A', Evo G1 H1 A1 G' H' A' → Rep X.K G' H' σ' ρ2 A' → Pin P (ρ0.set j none) σ ρ2 σ' → Sc G' H' → (∀ i, ∀ a ∈ S, a ∉ A' i) → D.nx σ' H' := by
      intro hj k σ' G' H' A' v' R' p sc' ap'
      have hl2 : j < ρ2.length := (List.getElem?_eq_some_iff.mp hj).1
      have hv' : σ'[j]? = some (some v) := (p.non j hj).trans hv
      refine k σ' G' H' _ ((v1.trans v').storeA fr) (R'.back hj hv' (hr _ _ sc') ap') (k0.pin.trans ⟨fun i hi hoi => ?_, fun i q hq => ?_, fun i hq => ?_, ?_⟩)
      · by_cases e : j = i
        · subst e; exact ⟨p.non j hj, r, List.getElem?_set_self hl2, ho⟩
        · obtain ⟨q, z1, z2⟩ := hoi
          obtain ⟨w1, q', w2, w3⟩ := p.par i hi ⟨q, by rw [List.getElem?_set_ne e]; exact z1, z2⟩
          exact ⟨w1, q', by rw [List.getElem?_set_ne e]; exact w2, w3⟩
      · by_cases e : j = i
        · subst e; exact ⟨r, List.getElem?_set_self hl2⟩
        · obtain ⟨q', w⟩ := p.held i q (by rw [List.getElem?_set_ne e]; exact hq)
          exact ⟨q', by rw [List.getElem?_set_ne e]; exact w⟩
      · by_cases e : j = i
        · subst e; exact p.non j hj
        · exact p.non i (by rw [List.getElem?_set_ne e] at hq; exact hq)
      · rw [List.length_set, p.len, List.length_set]
    cases fl2 with
    | nx =>
      simp only at hf
      split at hf
      · next hj =>
        cases hf
        refine for_core (P := P) src R1 sc ap e2 (fun _ => nxt hj k) (fun r' e => ?_)
        cases e
      · cases hf
    | bk =>
      simp only at hf
      split at hf
      · next hj =>
        cases hf
        refine for_core (P := P) src R1 sc ap e2 (fun e => ?_) (fun r' e => ?_)
        · cases e
        · cases e
      · cases hf
    | ct =>
      simp only at hf
      split at hf
      · next hj =>
        cases hf
        refine for_core (P := P) src R1 sc ap e2 (fun e => ?_) (fun r' e => ?_)
        · cases e
        · cases e
      · cases hf
    | rt r0 =>
      simp only at hf
      split at hf
      · next hjP =>
        split at hf
        · next hj =>
          cases hf
          have hl2 : j < ρ2.length := (List.getElem?_eq_some_iff.mp hj).1
          refine for_core (P := P) src R1 sc ap e2 (fun e => ?_) (fun r' e => ?_)
          · cases e
          · cases e
            intro w σ' G' H' A' T v' R' p hw ap' f' sc' apS
            have hv' : σ'[j]? = some (some v) := (p.non j hjP hj).trans hv
            refine k w σ' G' H' _ T ((v1.trans v').storeA fr) (R'.back hj hv' (hr _ _ sc') apS) (k0.pin.toR.trans ⟨fun i hi hoi => ?_, fun i q hip hq => ?_, fun i hip hq => ?_, ?_⟩) hw (fun i a ha z => ?_) fun a ha => ?_
            · by_cases e : j = i
              · subst e; exact ⟨p.non j hjP hj, r, List.getElem?_set_self hl2, ho⟩
              · obtain ⟨q, z1, z2⟩ := hoi
                obtain ⟨w1, q', w2, w3⟩ := p.par i hi ⟨q, by rw [List.getElem?_set_ne e]; exact z1, z2⟩
                exact ⟨w1, q', by rw [List.getElem?_set_ne e]; exact w2, w3⟩
            · by_cases e : j = i
              · subst e; exact ⟨r, List.getElem?_set_self hl2⟩
              · obtain ⟨q', w⟩ := p.held i q hip (by rw [List.getElem?_set_ne e]; exact hq)
                exact ⟨q', by rw [List.getElem?_set_ne e]; exact w⟩
            · by_cases e : j = i
              · subst e; exact p.non j hjP hj
              · exact p.non i hip (by rw [List.getElem?_set_ne e] at hq; exact hq)
            · rw [List.length_set, p.len, List.length_set]
            · by_cases e : i = j
              · simp only [e, if_true] at z
                rcases f' a ha with q | ⟨i', q⟩
                · obtain ⟨o, q'⟩ := src.there _ _ sc a z
                  rw [q] at q'; cases q'
                · exact ap i' a z q
              · simp only [e, if_false] at z
                exact ap' i a ha z
            · rcases f' a ha with z | ⟨i, z⟩
              · exact v1.back z
              · exact v1.foot i a z
        · cases hf
      · next hjP =>
        cases hf
        refine for_core (P := P) src R1 sc ap e2 (fun e => ?_) (fun r' e => ?_)
        · cases e
        · cases e
          intro w σ' G' H' A' T v' R' p hw ap' f' sc' apS
          refine k w σ' G' H' A' T (v1.trans v') R' (k0.pin.toR.trans ⟨fun i hi hoi => ?_, fun i q hip hq => ?_, fun i hip hq => p.non i hip hq, by rw [p.len, List.length_set]⟩) hw ap' fun a ha => ?_
          · obtain ⟨q, z1, z2⟩ := hoi
            exact p.par i hi ⟨q, by rw [List.getElem?_set_ne (by omega)]; exact z1, z2⟩
          · exact p.held i q hip (by rw [List.getElem?_set_ne (by omega)]; exact hq)
          · rcases f' a ha with z | ⟨i, z⟩
            · exact v1.back z
            · exact v1.foot i a z
end
end L2.CF
namespace L2.CF
open PySem PySem.Spec PyProof.Rows
variable {K : PySem.W.Frag}
abbrev FF := List RV → Option (RV × List RV)
def ArgsR (K : PySem.W.Frag) (G H : Hp) : List V → List RV → List (List Addr) → Prop
  | [], [], [] => True
  | v :: vs, x :: xs, S :: Ss => RepV K G H v x S ∧ (∀ T ∈ Ss, ∀ a ∈ S, a ∉ T) ∧ ArgsR K G H vs xs Ss
  | _, _, _ => False
def spD (K : PySem.W.Frag) (F : FF) : Sp := fun vs H Q _ => ∃ G xs Ss r ys, F xs = some (r, ys) ∧ Le G H ∧ ArgsR K G H vs xs Ss ∧
  ∀ v G' H' S, Le G G' → (∀ b o, G' b = some o → G b = some o ∨ H b = none ∨ ∃ T ∈ Ss, b ∈ T) → Le G' H' → (∀ b o, H b = some o → (∀ T ∈ Ss, b ∉ T) → H' b = some o) → ArgsR K G' H' vs ys Ss →
    RepV K G' H' v r S → (∀ T ∈ Ss, ∀ a ∈ S, a ∉ T) → (∀ a ∈ S, H a = none ∨ ∃ T ∈ Ss, a ∈ T) → Q v H'
theorem ArgsR.len {G H : Hp} : ∀ {vs : List V} {xs : List RV} {Ss : List (List Addr)}, ArgsR K G H vs xs Ss → vs.length = xs.length ∧ Ss.length = xs.length
  | [], [], [], _ => ⟨rfl, rfl⟩
  | _ :: _, _ :: _, _ :: _, ⟨_, _, h⟩ => by have q := h.len; simp [q.1, q.2]
  | [], [], _ :: _, h => h.elim
  | [], _ :: _, _, h => h.elim
  | _ :: _, [], _, h => h.elim
  | _ :: _, _ :: _, [], h => h.elim
theorem ArgsR.get {G H : Hp} : ∀ {vs : List V} {xs : List RV} {Ss : List (List Addr)} {i : Nat} {x : RV}, ArgsR K G H vs xs Ss → xs[i]? = some x → ∃ v S, vs[i]? = some v ∧ Ss[i]? = some S ∧ RepV K G H v x S
  | _ :: _, _ :: _, _ :: _, 0, _, ⟨h, _, _⟩, e => by simp at e; subst e; exact ⟨_, _, rfl, rfl, h⟩
  | _ :: _, _ :: _, _ :: _, i + 1, x, ⟨_, _, h⟩, e => by
    obtain ⟨v, S, h1, h2, h3⟩ := ArgsR.get (i := i) (x := x) h (by simpa using e)
    exact ⟨v, S, by simpa using h1, by simpa using h2, h3⟩
  | [], [], [], _, _, _, e => by simp at e
  | [], [], _ :: _, _, _, h, _ => h.elim
  | [], _ :: _, _, _, _, h, _ => h.elim
  | _ :: _, [], _, _, _, h, _ => h.elim
  | _ :: _, _ :: _, [], _, _, h, _ => h.elim
theorem ArgsR.disj {G H : Hp} : ∀ {vs : List V} {xs : List RV} {Ss : List (List Addr)}, ArgsR K G H vs xs Ss → ∀ {i j : Nat} {S T : List Addr} {a : Addr}, Ss[i]? = some S → Ss[j]? = some T → a ∈ S → a ∈ T → i = j
  | _ :: _, _ :: _, _ :: _, ⟨_, h1, h2⟩, 0, 0, _, _, _, _, _, _, _ => rfl
  | _ :: _, _ :: _, _ :: _, ⟨_, h1, h2⟩, 0, j + 1, S, T, a, e1, e2, m1, m2 => by
    simp at e1; subst e1
    exact absurd m2 (h1 T (List.mem_of_getElem? (by simpa using e2)) a m1)
  | _ :: _, _ :: _, _ :: _, ⟨_, h1, h2⟩, i + 1, 0, S, T, a, e1, e2, m1, m2 => by
    simp at e2; subst e2
    exact absurd m1 (h1 S (List.mem_of_getElem? (by simpa using e1)) a m2)
  | _ :: _, _ :: _, _ :: _, ⟨_, h1, h2⟩, i + 1, j + 1, S, T, a, e1, e2, m1, m2 => by
    have q := ArgsR.disj h2 (i := i) (j := j) (by simpa using e1) (by simpa using e2) m1 m2
    omega
  | [], [], [], _, _, _, _, _, _, e1, _, _, _ => by simp at e1
  | [], [], _ :: _, h, _, _, _, _, _, _, _, _, _ => h.elim
  | [], _ :: _, _, h, _, _, _, _, _, _, _, _, _ => h.elim
  | _ :: _, [], _, h, _, _, _, _, _, _, _, _, _ => h.elim
  | _ :: _, _ :: _, [], h, _, _, _, _, _, _, _, _, _ => h.elim
theorem ArgsR.mk {G H : Hp} : ∀ {vs : List V} {xs : List RV} {Ss : List (List Addr)}, vs.length = xs.length → Ss.length = xs.length → (∀ (i : Nat) x v S, xs[i]? = some x → vs[i]? = some v → Ss[i]? = some S → RepV K G H v x S) →
    (∀ (i j : Nat) S T a, Ss[i]? = some S → Ss[j]? = some T → a ∈ S → a ∈ T → i = j) → ArgsR K G H vs xs Ss
  | [], [], [], _, _, _, _ => trivial
  | v :: vs, x :: xs, S :: Ss, h1, h2, h3, h4 => by
    refine ⟨h3 0 x v S rfl rfl rfl, fun T hT a m1 m2 => ?_, ArgsR.mk (by simpa using h1) (by simpa using h2) (fun i x v S e1 e2 e3 => h3 (i + 1) x v S (by simpa using e1) (by simpa using e2) (by simpa using e3)) fun i j S T a e1 e2 m1 m2 => ?_⟩
    · obtain ⟨j, hj⟩ := List.mem_iff_getElem?.mp hT
      have q := h4 0 (j + 1) S T a rfl (by simpa using hj) m1 m2
      omega
    · have q := h4 (i + 1) (j + 1) S T a (by simpa using e1) (by simpa using e2) m1 m2
      omega
  | [], _ :: _, _, h, _, _, _ => by simp at h
  | _ :: _, [], _, h, _, _, _ => by simp at h
  | [], [], _ :: _, _, h, _, _ => by simp at h
  | _ :: _, _ :: _, [], _, h, _, _ => by simp at h
def sat : RV → Option Addr
  | .S _ a _ => some a
  | _ => none
def outAt (ρ' : DS) : Nat → List RV → Option (List RV)
  | _, [] => some []
  | i, x :: xs => (match ownd x, ρ'[i]? with
    | false, _ => some x
    | true, some (some r) => if ownd r ∧ sat r = sat x then some r else none
    | true, _ => none).bind fun y => (outAt ρ' (i + 1) xs).map (y :: ·)
def runBody (n : Nat) (f : FS) : FF := fun xs => (f (xs.map some ++ List.replicate (n - xs.length) none)).bind fun q => match q.1 with
  | .rt r => (outAt q.2 0 xs).map fun ys => (r, ys)
  | .nx => (outAt q.2 0 xs).map fun ys => (.p .non, ys)
  | _ => none
theorem outAt_of {ρ' : DS} : ∀ {xs ys : List RV} {i : Nat}, outAt ρ' i xs = some ys → ys.length = xs.length ∧ ∀ j x y, xs[j]? = some x → ys[j]? = some y → (ownd x = false ∧ y = x) ∨ (ownd x = true ∧ ρ'[i + j]? = some (some y) ∧ ownd y = true ∧ sat y = sat x)
  | [], ys, i, h => by cases h; exact ⟨rfl, fun j x y e => by simp at e⟩
  | x :: xs, ys, i, h => by
    unfold outAt at h
    obtain ⟨y, h1, h⟩ := obi h
    obtain ⟨zs, h2, h⟩ := omi h
    subst h
    obtain ⟨l, q⟩ := outAt_of h2
    refine ⟨by simp [l], fun j x' y' e1 e2 => ?_⟩
    cases j with
    | zero =>
      simp at e1 e2
      subst e1 e2
      cases o : ownd x with
      | false => rw [o] at h1; cases h1; exact .inl ⟨rfl, rfl⟩
      | true =>
        rw [o] at h1
        cases z : ρ'[i]? with
        | none => rw [z] at h1; cases h1
        | some w =>
          rw [z] at h1
          cases w with
          | none => cases h1
          | some w =>
            simp only at h1
            split at h1
            · next ow => cases h1; exact .inr ⟨rfl, rfl, ow.1, ow.2⟩
            · cases h1
    | succ j =>
      have r := q j x' y' (by simpa using e1) (by simpa using e2)
      rw [show i + 1 + j = i + (j + 1) by omega] at r
      exact r
theorem own_foot {G H : Hp} {v : V} {r : RV} {S : List Addr} (h : RepV K G H v r S) (o : ownd r = true) : ∃ a, v = .ref a ∧ S = a :: (sat r).toList := by
  cases r with
  | p d => cases o
  | L ds => obtain ⟨a, vs, e, s, _⟩ := h; exact ⟨a, e, s⟩
  | K ds => obtain ⟨a, vs, e, s, _⟩ := h; exact ⟨a, e, s⟩
  | S ds c ms => obtain ⟨a, vs, ws, e, s, _⟩ := h; exact ⟨a, e, s⟩
theorem pure_foot {G H : Hp} {v : V} {r : RV} {S : List Addr} (h : RepV K G H v r S) (o : ownd r = false) : S = [] := by
  cases r with
  | p d => exact h.1
  | L ds => cases o
  | K ds => cases o
  | S ds c ms => cases o
theorem body_run {P : Nat} {N : List Str} {m : FS} {vs : List V} {H : Hp} {Q : VK} {xs : List RV} {Ss : List (List Addr)} {G : Hp} {r : RV} {ys : List RV} (hN : vs.length ≤ N.length) (hP : P = vs.length) (hf : runBody N.length m xs = some (r, ys)) (l : Le G H) (ha : ArgsR K G H vs xs Ss)
    (k : ∀ v G' H' S, Le G G' → (∀ b o, G' b = some o → G b = some o ∨ H b = none ∨ ∃ T ∈ Ss, b ∈ T) → Le G' H' → (∀ b o, H b = some o → (∀ T ∈ Ss, b ∉ T) → H' b = some o) → ArgsR K G' H' vs ys Ss →
      RepV K G' H' v r S → (∀ T ∈ Ss, ∀ a ∈ S, a ∉ T) → (∀ a ∈ S, H a = none ∨ ∃ T ∈ Ss, a ∈ T) → Q v H') :
    ∃ ρ fl ρ', m ρ = some (fl, ρ') ∧ tDS K P ρ fl ρ' { nx := fun _ H' => Q .non H', rt := Q } (start N vs) H := by
  unfold runBody at hf
  obtain ⟨⟨fl, ρ'⟩, hm, hf⟩ := obi hf
  obtain ⟨lx, lS⟩ := ha.len
  refine ⟨_, fl, ρ', hm, G, fun i => Ss.getD i [], ⟨l, ?_, fun i x e => ?_, fun i e => ?_, fun i j a h1 h2 => ?_⟩, ?_⟩
  · unfold start
    rw [List.length_append, List.length_append, List.length_map, List.length_map, List.length_replicate, List.length_replicate, lx]
  · have hi : i < xs.length := by
      by_cases z : i < xs.length
      · exact z
      · rw [List.getElem?_append_right (by simpa using z), List.getElem?_replicate] at e
        split at e <;> cases e
    rw [List.getElem?_append_left (by simpa using hi), List.getElem?_map] at e
    have e' : xs[i]? = some x := by
      cases q : xs[i]? with
      | none => rw [q] at e; cases e
      | some z => rw [q] at e; cases e; rfl
    obtain ⟨v, S, h1, h2, h3⟩ := ha.get e'
    refine ⟨v, ?_, ?_⟩
    · unfold start
      rw [List.getElem?_append_left (by rw [List.length_map, lx]; exact hi), List.getElem?_map, h1]
      rfl
    · rw [List.getD_eq_getElem?_getD, h2]
      exact h3
  · have hi : ¬ i < xs.length := fun z => by
      refine e xs[i] ?_
      rw [List.getElem?_append_left (by simpa using z), List.getElem?_map, List.getElem?_eq_getElem z]
      rfl
    show Ss.getD i [] = []
    rw [List.getD_eq_getElem?_getD, List.getElem?_eq_none_iff.mpr (by omega)]
    rfl
  · have z1 : ∃ S, Ss[i]? = some S ∧ a ∈ S := by
      have h1 : a ∈ Ss.getD i [] := h1
      rw [List.getD_eq_getElem?_getD] at h1
      cases q : Ss[i]? with
      | none => rw [q] at h1; simp at h1
      | some S => rw [q] at h1; exact ⟨S, rfl, h1⟩
    have z2 : ∃ S, Ss[j]? = some S ∧ a ∈ S := by
      have h2 : a ∈ Ss.getD j [] := h2
      rw [List.getD_eq_getElem?_getD] at h2
      cases q : Ss[j]? with
      | none => rw [q] at h2; simp at h2
      | some S => rw [q] at h2; exact ⟨S, rfl, h2⟩
    obtain ⟨S, e1, m1⟩ := z1
    obtain ⟨T, e2, m2⟩ := z2
    exact ha.disj e1 e2 m1 m2
  · -- what is in the frame's footprint is an argument's
    have inS : ∀ {i : Nat} {b : Addr}, b ∈ Ss.getD i [] → ∃ T ∈ Ss, b ∈ T := fun {i b} h => by
      rw [List.getD_eq_getElem?_getD] at h
      cases q : Ss[i]? with
      | none => rw [q] at h; simp at h
      | some S => rw [q] at h; exact ⟨S, List.mem_of_getElem? q, h⟩
    have ofS : ∀ {T : List Addr} {b : Addr}, T ∈ Ss → b ∈ T → ∃ i, b ∈ Ss.getD i [] := fun {T b} h hb => by
      obtain ⟨i, hi⟩ := List.mem_iff_getElem?.mp h
      exact ⟨i, by rw [List.getD_eq_getElem?_getD, hi]; exact hb⟩
    have fin : ∀ (hy : outAt ρ' 0 xs = some ys) (v : V) (σ' : St) (G' H' : Hp) (A' : Ft) (S : List Addr), Evo G H (fun i => Ss.getD i []) G' H' A' → Rep K G' H' σ' ρ' A' → PinR P (xs.map some ++ List.replicate (N.length - xs.length) none) (start N vs) ρ' σ' →
        RepV K G' H' v r S → (∀ i, ∀ a ∈ S, a ∉ A' i) → (∀ a ∈ S, H a = none ∨ ∃ i, a ∈ Ss.getD i []) → Q v H' := by
      intro hy v σ' G' H' A' S ev R' pin hr ap fr
      obtain ⟨ly, oy⟩ := outAt_of hy
      have slotOf : ∀ {i : Nat} {x : RV} {w : V} {T : List Addr} {y : RV}, xs[i]? = some x → vs[i]? = some w → Ss[i]? = some T → ys[i]? = some y → ownd x = true → RepV K G' H' w y T ∧ A' i = T := by
        intro i x w T y e1 e2 e3 e4 o
        have hi : i < xs.length := (List.getElem?_eq_some_iff.mp e1).1
        have es : (start N vs)[i]? = some (some w) := by
          unfold start
          rw [List.getElem?_append_left (by rw [List.length_map, lx]; exact hi), List.getElem?_map, e2]
          rfl
        have er : (xs.map some ++ List.replicate (N.length - xs.length) none)[i]? = some (some x) := by
          rw [List.getElem?_append_left (by simpa using hi), List.getElem?_map, e1]
          rfl
        obtain ⟨p1, _⟩ := pin.par i (by omega) ⟨x, er, o⟩
        have q : ρ'[0 + i]? = some (some y) := by
          rcases oy i x y e1 e4 with ⟨z, _⟩ | ⟨_, z, _⟩
          · rw [o] at z; cases z
          · exact z
        rw [Nat.zero_add] at q
        obtain ⟨u, hu, hru⟩ := R'.slot i y q
        rw [p1, es] at hu
        cases hu
        obtain ⟨w', T', g1, g2, g3⟩ := ha.get e1
        rw [e2] at g1; cases g1
        rw [e3] at g2; cases g2
        obtain ⟨a, ea, eT⟩ := own_foot g3 o
        have oy' : ownd y = true := by
          obtain ⟨_, z1, z2, z3⟩ := pin.par i (by omega) ⟨x, er, o⟩
          rw [q] at z2; cases z2; exact z3
        obtain ⟨b, eb, eA⟩ := own_foot hru oy'
        rw [ea] at eb
        cases eb
        have hsat : sat y = sat x := by
          rcases oy i x y e1 e4 with ⟨z, _⟩ | ⟨_, _, _, z⟩
          · rw [o] at z; cases z
          · exact z
        have e : A' i = T := by rw [eA, eT, hsat]
        rw [e] at hru
        exact ⟨hru, e⟩
      refine k v G' H' S ev.le (fun b o h => ?_) R'.imm (fun b o h n => ev.keep b o h fun i hi => ?_) (ArgsR.mk (by rw [lx, ly]) (by rw [lS, ly]) (fun i y w T e1 e2 e3 => ?_) fun i j S T a e1 e2 m1 m2 => ha.disj e1 e2 m1 m2) hr (fun T hT a m1 m2 => ?_) fun a m => ?_
      · rcases ev.new b o h with z | z | ⟨i, z⟩
        · exact .inl z
        · exact .inr (.inl z)
        · exact .inr (.inr (inS z))
      · obtain ⟨T, hT, hb⟩ := inS hi
        exact n T hT hb
      · have hi : i < xs.length := by rw [← ly]; exact (List.getElem?_eq_some_iff.mp e1).1
        have ex : xs[i]? = some xs[i] := List.getElem?_eq_getElem hi
        cases o : ownd xs[i] with
        | true => exact (slotOf ex e2 e3 e1 o).1
        | false =>
          obtain ⟨w', T', g1, g2, g3⟩ := ha.get ex
          rw [e2] at g1; cases g1
          rw [e3] at g2; cases g2
          have ey : y = xs[i] := by
            rcases oy i _ y ex e1 with ⟨_, z⟩ | ⟨z, _, _⟩
            · exact z
            · rw [o] at z; cases z
          rw [ey]
          have e0 := pure_foot g3 o
          subst e0
          exact g3.stay ev.le (by simp) (by simp)
      · obtain ⟨i, hi⟩ := List.mem_iff_getElem?.mp hT
        have hl : i < xs.length := by rw [← lS]; exact (List.getElem?_eq_some_iff.mp hi).1
        have ex : xs[i]? = some xs[i] := List.getElem?_eq_getElem hl
        have ev' : vs[i]? = some (vs[i]'(by omega)) := List.getElem?_eq_getElem (by omega)
        have ey' : ys[i]? = some (ys[i]'(by omega)) := List.getElem?_eq_getElem (by omega)
        cases o : ownd xs[i] with
        | true =>
          have q := (slotOf ex ev' hi ey' o).2
          exact ap i a m1 (by rw [q]; exact m2)
        | false =>
          obtain ⟨w', T', g1, g2, g3⟩ := ha.get ex
          rw [hi] at g2; cases g2
          rw [pure_foot g3 o] at m2
          simp at m2
      · rcases fr a m with z | ⟨i, z⟩
        · exact .inl z
        · exact .inr (inS z)
    cases fl with
    | nx =>
      obtain ⟨ys', h1, h2⟩ := omi hf
      cases h2
      exact fun σ' G' H' A' ev R' p => fin h1 .non σ' G' H' A' [] ev R' p.toR ⟨rfl, .non⟩ (by simp) (by simp)
    | rt r' =>
      obtain ⟨ys', h1, h2⟩ := omi hf
      cases h2
      exact fun v σ' G' H' A' S ev R' p hr ap fr => fin h1 v σ' G' H' A' S ev R' p hr ap fr
    | bk => cases hf
    | ct => cases hf
theorem fn_data {Pg : Program} {w : World} {K : PySem.W.Frag} {mg : Str → Option Value} {base : Heap} {x qual : Str} {st : Stmt} {f : Addr} {fd : FuncData} {N ps : List Str} {k : Nat} {m : FS} (F : Fun K x qual st f fd) (S : FnScope N ps (defScope st))
    (hbody : ∀ (cdv : Value) (A : Around) (outer : List Env) (s : Shared) (H : Hp) (E : XK), Room k (A.deeper (envOfC qual (defScope st) s.heap.objs.size f cdv)) → DSs ps.length (cxOf CX0 Pg w K mg base N qual (defScope st) f cdv A outer s H E).nox (defBody st) m) :
    FnOk Pg w K mg base CX0 (k + 1) f fd ps (fun vs H Q E => vs.length = ps.length ∧ spD K (runBody N.length m) vs H Q E) := by
  refine F.ok S (fun vs H Q E h => h.1) (fun cdv A outer s H vs Q E hr h => ?_)
  obtain ⟨hl, G, xs, Ss, r, ys, hf, l, ha, kk⟩ := h
  have hN : vs.length ≤ N.length := by
    have := congrArg List.length S.pre
    rw [List.length_take] at this
    omega
  obtain ⟨ρ, fl, ρ', hm, q⟩ := body_run hN hl.symm hf l ha kk
  exact ⟨_, hbody cdv A outer s H E hr ρ fl ρ' hm, q⟩
end L2.CF
namespace L2.CF
open PySem PySem.Spec PyProof.Rows
variable {K : PySem.W.Frag}
class KpF (F : FF) : Prop where kp : ∀ xs r ys, F xs = some (r, ys) → ys.length = xs.length ∧ ∀ (i : Nat) x y, xs[i]? = some x → ys[i]? = some y → ownd y = ownd x
instance {n : Nat} {f : FS} : KpF (runBody n f) := ⟨fun xs r ys h => by
  unfold runBody at h
  obtain ⟨⟨fl, ρ'⟩, hm, hf⟩ := obi h
  have key : ∀ zs, outAt ρ' 0 xs = some zs → zs.length = xs.length ∧ ∀ (i : Nat) x y, xs[i]? = some x → zs[i]? = some y → ownd y = ownd x := fun zs hz => by
    obtain ⟨l, q⟩ := outAt_of hz
    refine ⟨l, fun i x y e1 e2 => ?_⟩
    rcases q i x y e1 e2 with ⟨_, z⟩ | ⟨z1, _, z2, _⟩
    · rw [z]
    · rw [z1, z2]
  cases fl with
  | nx => obtain ⟨zs, h1, h2⟩ := omi hf; cases h2; exact key _ h1
  | rt r' => obtain ⟨zs, h1, h2⟩ := omi hf; cases h2; exact key _ h1
  | bk => cases hf
  | ct => cases hf⟩
abbrev FnD (Pg : Program) (w : World) (K : PySem.W.Frag) (mg : Str → Option Value) (base : Heap) (k : Nat) (f : Addr) (fd : FuncData) (ps : List Str) (F : FF) : Prop := FnOk Pg w K mg base CX0 k f fd ps (fun vs H Q E => vs.length = ps.length ∧ spD K F vs H Q E)
def ats : List RR → List Nat
  | [] => []
  | .at i :: rs => i :: ats rs
  | .own _ :: rs => ats rs
def putBack (ρ : DS) : List RR → List RV → DS
  | .at i :: rs, y :: ys => putBack (ρ.set i (some y)) rs ys
  | .own _ :: rs, _ :: ys => putBack ρ rs ys
  | _, _ => ρ
def footL (A : Ft) : List RR → List (List Addr) → List (List Addr)
  | .at i :: rs, _ :: Ss => A i :: footL A rs Ss
  | .own _ :: rs, S :: Ss => S :: footL A rs Ss
  | _, _ => []
theorem mem_ats {i : Nat} : ∀ {rs : List RR}, i ∈ ats rs ↔ RR.at i ∈ rs
  | [] => by simp [ats]
  | .at j :: rs => by simp [ats, mem_ats]
  | .own _ :: rs => by simp [ats, mem_ats]
theorem putBack_len : ∀ {rs : List RR} {ys : List RV} {ρ : DS}, (putBack ρ rs ys).length = ρ.length
  | .at i :: rs, y :: ys, ρ => by show (putBack (ρ.set i (some y)) rs ys).length = _; rw [putBack_len, List.length_set]
  | .own _ :: rs, _ :: ys, ρ => by show (putBack ρ rs ys).length = _; rw [putBack_len]
  | [], _, _ => by simp [putBack]
  | .at _ :: _, [], _ => rfl
  | .own _ :: _, [], _ => rfl
theorem putBack_ne {j : Nat} : ∀ {rs : List RR} {ys : List RV} {ρ : DS}, j ∉ ats rs → (putBack ρ rs ys)[j]? = ρ[j]?
  | .at i :: rs, y :: ys, ρ, h => by
    simp [ats] at h
    show (putBack (ρ.set i (some y)) rs ys)[j]? = _
    rw [putBack_ne h.2, List.getElem?_set_ne (by omega)]
  | .own _ :: rs, _ :: ys, ρ, h => by show (putBack ρ rs ys)[j]? = _; exact putBack_ne h
  | [], _, _, _ => by simp [putBack]
  | .at _ :: _, [], _, _ => rfl
  | .own _ :: _, [], _, _ => rfl
theorem putBack_eq {j : Nat} {y : RV} : ∀ {rs : List RR} {ys : List RV} {ρ : DS} {k : Nat}, (ats rs).Nodup → j < ρ.length → rs[k]? = some (.at j) → ys[k]? = some y → (putBack ρ rs ys)[j]? = some (some y)
  | .at i :: rs, z :: ys, ρ, 0, nd, hl, e1, e2 => by
    simp at e1 e2
    subst e1 e2
    show (putBack (ρ.set i (some z)) rs ys)[i]? = _
    rw [putBack_ne (List.nodup_cons.mp nd).1, List.getElem?_set_self hl]
  | .at i :: rs, z :: ys, ρ, k + 1, nd, hl, e1, e2 => by
    show (putBack (ρ.set i (some z)) rs ys)[j]? = _
    exact putBack_eq (k := k) (List.nodup_cons.mp nd).2 (by rw [List.length_set]; exact hl) (by simpa using e1) (by simpa using e2)
  | .own _ :: rs, z :: ys, ρ, 0, nd, hl, e1, e2 => by simp at e1
  | .own _ :: rs, z :: ys, ρ, k + 1, nd, hl, e1, e2 => by
    show (putBack ρ rs ys)[j]? = _
    exact putBack_eq (k := k) nd hl (by simpa using e1) (by simpa using e2)
  | [], _, _, _, _, _, e1, _ => by simp at e1
  | .at _ :: _, [], _, _, _, _, _, e2 => by simp at e2
  | .own _ :: _, [], _, _, _, _, _, e2 => by simp at e2
theorem footL_mem {G H : Hp} {σ : St} {A : Ft} : ∀ {vs : List V} {rs : List RR} {Ss : List (List Addr)} {T : List Addr}, ResL K G H σ A vs rs Ss → T ∈ footL A rs Ss → (∃ j, j ∈ ats rs ∧ T = A j) ∨ (T ∈ Ss ∧ ∀ i, ∀ a ∈ T, a ∉ A i)
  | v :: vs, .at i :: rs, S :: Ss, T, ⟨h, _, hs⟩, m => by
    rcases List.mem_cons.mp (show T ∈ A i :: footL A rs Ss from m) with rfl | m
    · exact .inl ⟨i, by simp [ats], rfl⟩
    · rcases footL_mem hs m with ⟨j, h1, h2⟩ | ⟨h1, h2⟩
      · exact .inl ⟨j, by simp [ats, h1], h2⟩
      · exact .inr ⟨List.mem_cons_of_mem _ h1, h2⟩
  | v :: vs, .own r :: rs, S :: Ss, T, ⟨h, _, hs⟩, m => by
    rcases List.mem_cons.mp (show T ∈ S :: footL A rs Ss from m) with rfl | m
    · exact .inr ⟨List.mem_cons_self, h.2⟩
    · rcases footL_mem hs m with ⟨j, h1, h2⟩ | ⟨h1, h2⟩
      · exact .inl ⟨j, h1, h2⟩
      · exact .inr ⟨List.mem_cons_of_mem _ h1, h2⟩
  | [], [], [], T, _, m => by simp [footL] at m
  | [], [], _ :: _, _, h, _ => h.elim
  | [], _ :: _, _, _, h, _ => h.elim
  | _ :: _, [], _, _, h, _ => h.elim
  | _ :: _, _ :: _, [], _, h, _ => h.elim
theorem footL_at {G H : Hp} {σ : St} {A : Ft} {j : Nat} : ∀ {vs : List V} {rs : List RR} {Ss : List (List Addr)}, ResL K G H σ A vs rs Ss → j ∈ ats rs → ∃ (k : Nat) (v : V), rs[k]? = some (RR.at j) ∧ vs[k]? = some v ∧ σ[j]? = some (some v) ∧ (footL A rs Ss)[k]? = some (A j)
  | v :: vs, .at i :: rs, S :: Ss, ⟨h, _, hs⟩, m => by
    rcases List.mem_cons.mp (show j ∈ i :: ats rs from m) with rfl | m
    · exact ⟨0, v, rfl, rfl, h.2, rfl⟩
    · obtain ⟨k, w, h1, h2, h3, h4⟩ := footL_at hs m
      exact ⟨k + 1, w, by simpa using h1, by simpa using h2, h3, by simpa [footL] using h4⟩
  | v :: vs, .own r :: rs, S :: Ss, ⟨h, _, hs⟩, m => by
    obtain ⟨k, w, h1, h2, h3, h4⟩ := footL_at hs m
    exact ⟨k + 1, w, by simpa using h1, by simpa using h2, h3, by simpa [footL] using h4⟩
  | [], [], [], _, m => by simp [ats] at m
  | [], [], _ :: _, h, _ => h.elim
  | [], _ :: _, _, h, _ => h.elim
  | _ :: _, [], _, h, _ => h.elim
  | _ :: _, _ :: _, [], h, _ => h.elim
theorem argsR_of {G H : Hp} {σ : St} {ρ : DS} {A : Ft} (R : Rep K G H σ ρ A) : ∀ {vs : List V} {rs : List RR} {Ss : List (List Addr)} {xs : List RV}, ResL K G H σ A vs rs Ss → (ats rs).Nodup → resL ρ rs = some xs → ArgsR K G H vs xs (footL A rs Ss)
  | [], [], [], xs, _, _, h1 => by cases h1; trivial
  | v :: vs, r :: rs, S :: Ss, xs, ⟨q, ds, qs⟩, nd, h1 => by
    unfold resL at h1
    obtain ⟨x, e1, h1⟩ := obi h1
    obtain ⟨ys, e2, h1⟩ := omi h1
    subst h1
    cases r with
    | own r' =>
      cases e1
      refine ⟨q.1, fun T hT a m1 m2 => ?_, argsR_of R qs nd e2⟩
      rcases footL_mem qs hT with ⟨j, _, rfl⟩ | ⟨h, _⟩
      · exact q.2 j a m1 m2
      · exact ds T h a m1 m2
    | «at» i =>
      have e1' : ρ[i]? = some (some x) := by
        have e1 : ρ[i]?.join = some x := e1
        cases z : ρ[i]? with
        | none => rw [z] at e1; cases e1
        | some o => rw [z] at e1; cases o with
          | none => cases e1
          | some w => cases e1; rfl
      obtain ⟨u, hu, hr⟩ := R.slot i x e1'
      rw [q.2] at hu
      cases hu
      have nd' : i ∉ ats rs ∧ (ats rs).Nodup := List.nodup_cons.mp nd
      refine ⟨hr, fun T hT a m1 m2 => ?_, argsR_of R qs nd'.2 e2⟩
      rcases footL_mem qs hT with ⟨j, hj, rfl⟩ | ⟨_, h⟩
      · have z := R.disj i j a m1 m2
        subst z
        exact nd'.1 hj
      · exact h i a m2 m1
  | [], [], _ :: _, _, h, _, _ => h.elim
  | [], _ :: _, _, _, h, _, _ => h.elim
  | _ :: _, [], _, _, h, _, _ => h.elim
  | _ :: _, _ :: _, [], _, h, _, _ => h.elim
theorem resL_get {ρ : DS} : ∀ {rs : List RR} {xs : List RV} {k : Nat} {j : Nat}, resL ρ rs = some xs → rs[k]? = some (.at j) → ∃ x, xs[k]? = some x ∧ ρ[j]? = some (some x)
  | [], xs, k, j, h, e => by simp at e
  | r :: rs, xs, k, j, h, e => by
    unfold resL at h
    obtain ⟨x, e1, h⟩ := obi h
    obtain ⟨ys, e2, h⟩ := omi h
    subst h
    cases k with
    | zero =>
      simp at e
      subst e
      have e1 : ρ[j]?.join = some x := e1
      refine ⟨x, rfl, ?_⟩
      cases z : ρ[j]? with
      | none => rw [z] at e1; cases e1
      | some o => rw [z] at e1; cases o with
        | none => cases e1
        | some w => cases e1; rfl
    | succ k =>
      obtain ⟨x', h1, h2⟩ := resL_get (k := k) e2 (by simpa using e)
      exact ⟨x', by simpa using h1, h2⟩
def fFn (n : Nat) (F : FF) (fa : FA) : FE := fun ρ => (fa ρ).bind fun p => if (ats p.1).Nodup then (resL p.2 p.1).bind fun xs => if xs.length = n then (F xs).map fun r => (.own r.1, putBack p.2 p.1 r.2) else none else none
theorem fFn_inv {n : Nat} {F : FF} {fa : FA} {ρ ρ' : DS} {rr : RR} (h : fFn n F fa ρ = some (rr, ρ')) : ∃ rs ρ1 xs r ys, fa ρ = some (rs, ρ1) ∧ (ats rs).Nodup ∧ resL ρ1 rs = some xs ∧ xs.length = n ∧ F xs = some (r, ys) ∧ rr = .own r ∧ ρ' = putBack ρ1 rs ys := by
  unfold fFn at h
  obtain ⟨⟨rs, ρ1⟩, h1, h⟩ := obi h
  split at h
  · next nd =>
    obtain ⟨xs, h2, h⟩ := obi h
    split at h
    · next hn =>
      obtain ⟨⟨r, ys⟩, h3, h⟩ := omi h
      cases h
      exact ⟨rs, ρ1, xs, r, ys, h1, nd, h2, hn, h3, rfl, rfl⟩
    · cases h
  · cases h
theorem putBack_kp {P : Nat} {ρ : DS} {rs : List RR} {xs ys : List RV} (nd : (ats rs).Nodup) (h2 : resL ρ rs = some xs) (kp : ys.length = xs.length ∧ ∀ (i : Nat) x y, xs[i]? = some x → ys[i]? = some y → ownd y = ownd x) : Kp P ρ (putBack ρ rs ys) := by
  refine ⟨putBack_len, fun j => ?_⟩
  by_cases hj : j ∈ ats rs
  · obtain ⟨k, hk⟩ := List.mem_iff_getElem?.mp (mem_ats.mp hj)
    obtain ⟨x, e1, e2⟩ := resL_get h2 hk
    have hl : j < ρ.length := (List.getElem?_eq_some_iff.mp e2).1
    have hky : k < ys.length := by rw [kp.1]; exact (List.getElem?_eq_some_iff.mp e1).1
    have ey : ys[k]? = some ys[k] := List.getElem?_eq_getElem hky
    have e3 := putBack_eq nd hl hk ey
    refine ⟨fun r hr => ?_, fun hr => ?_⟩
    · rw [e2] at hr; cases hr
      exact ⟨_, e3, fun _ => kp.2 k x _ e1 ey⟩
    · rw [e2] at hr; cases hr
  · rw [putBack_ne hj]
    exact ⟨fun r hr => ⟨r, hr, fun _ => rfl⟩, fun hr => hr⟩
instance {P n : Nat} {F : FF} {fa : FA} [hF : KpF F] [ha : KpA P fa] : KpE P (fFn n F fa) := ⟨fun ρ rr ρ' h => by
  obtain ⟨rs, ρ1, xs, r, ys, h1, nd, h2, hn, h3, rfl, rfl⟩ := fFn_inv h
  exact (ha.kp _ _ _ h1).trans (putBack_kp nd h2 (hF.kp _ _ _ h3))⟩
section
variable {X : Cx} {k : Nat} {f : Addr} {fd : FuncData} {ps : List Str} {F : FF} {x : Str} {p pos : Pos} {e : Expr} {es : List Expr} {fa : FA}
theorem fn_ent {ρ ρ1 : DS} {rs : List RR} {xs ys : List RV} {r : RV} (nd : (ats rs).Nodup) (h2 : resL ρ1 rs = some xs) (hn : xs.length = ps.length) (h3 : F xs = some (r, ys)) (kp : ys.length = xs.length ∧ ∀ (i : Nat) x y, xs[i]? = some x → ys[i]? = some y → ownd y = ownd x) {σ : St} {H : Hp} {Q : VK}
    (h : tD K ρ (.own r) (putBack ρ1 rs ys) σ H Q) : tCall (fun vs H Q E => vs.length = ps.length ∧ spD K F vs H Q E) [] E0 (tDA K ρ rs ρ1) σ H Q := by
  obtain ⟨G, A, R, k⟩ := h
  refine ⟨G, A, R, fun vs G1 H1 A1 Ss e1 R1 q1 f1 => ?_⟩
  show (vs ++ []).length = ps.length ∧ spD K F (vs ++ []) H1 Q E0
  rw [List.append_nil]
  have ha := argsR_of R1 q1 nd h2
  refine ⟨by rw [ha.len.1, hn], G1, xs, footL A1 rs Ss, r, ys, h3, R1.imm, ha, fun v G2 H2 S le new imm keep ha2 hr ap fr => ?_⟩
  have inA : ∀ {T : List Addr} {b : Addr}, T ∈ footL A1 rs Ss → b ∈ T → H b = none ∨ ∃ i, b ∈ A i := fun {T b} hT hb => by
    rcases footL_mem q1 hT with ⟨j, _, rfl⟩ | ⟨h, _⟩
    · exact e1.foot j b hb
    · exact f1 T h b hb
  have ev : Evo G H A G2 H2 A1 := by
    refine ⟨e1.le.trans le, fun b o h => ?_, fun b o h n => keep b o (e1.keep b o h n) fun T hT hb => ?_, e1.foot⟩
    · rcases new b o h with z | z | ⟨T, hT, z⟩
      · exact e1.new b o z
      · exact .inr (e1.back z)
      · exact .inr (inA hT z)
    · rcases inA hT hb with z | ⟨i, z⟩
      · rw [h] at z; cases z
      · exact n i z
  have out : ∀ {j : Nat}, j ∉ ats rs → ∀ {b : Addr}, b ∈ A1 j → ∀ T ∈ footL A1 rs Ss, b ∉ T := fun {j} hj {b} hb T hT m => by
    rcases footL_mem q1 hT with ⟨i, hi, rfl⟩ | ⟨_, h⟩
    · have z := R1.disj j i b hb m
      subst z
      exact hj hi
    · exact h j b m hb
  have R2 : Rep K G2 H2 σ (putBack ρ1 rs ys) A1 := by
    refine ⟨imm, by rw [putBack_len]; exact R1.len, fun j q hj => ?_, fun j hj => ?_, R1.disj⟩
    · by_cases hm : j ∈ ats rs
      · obtain ⟨kk, w, g1, g2, g3, g4⟩ := footL_at q1 hm
        obtain ⟨x, g5, g6⟩ := resL_get h2 g1
        have hl : j < ρ1.length := (List.getElem?_eq_some_iff.mp g6).1
        have hky : kk < ys.length := by rw [kp.1]; exact (List.getElem?_eq_some_iff.mp g5).1
        have ey : ys[kk]? = some ys[kk] := List.getElem?_eq_getElem hky
        rw [putBack_eq nd hl g1 ey] at hj
        cases hj
        obtain ⟨w', T, g7, g8, g9⟩ := ha2.get ey
        rw [g2] at g7; cases g7
        rw [g4] at g8; cases g8
        exact ⟨w, g3, g9⟩
      · rw [putBack_ne hm] at hj
        obtain ⟨w, g1, g2⟩ := R1.slot j q hj
        refine ⟨w, g1, g2.stay le (fun a ha' o qq => keep a o qq (out hm ha')) fun a ha' => ?_⟩
        cases z : G2 a with
        | none => rfl
        | some o =>
          rcases new a o z with y | y | ⟨T, hT, y⟩
          · rw [g2.gfree ha'] at y; cases y
          · obtain ⟨o', y'⟩ := g2.there ha'
            rw [y] at y'; cases y'
          · exact absurd y (out hm ha' T hT)
    · refine R1.emp j fun q hq => ?_
      by_cases hm : j ∈ ats rs
      · obtain ⟨kk, w, g1, g2, g3, g4⟩ := footL_at q1 hm
        obtain ⟨x, g5, g6⟩ := resL_get h2 g1
        have hl : j < ρ1.length := (List.getElem?_eq_some_iff.mp g6).1
        have hky : kk < ys.length := by rw [kp.1]; exact (List.getElem?_eq_some_iff.mp g5).1
        exact hj _ (putBack_eq nd hl g1 (List.getElem?_eq_getElem hky))
      · exact hj q (by rw [putBack_ne hm]; exact hq)
  refine k v G2 H2 A1 S ev R2 ⟨hr, fun j a ha' m => ?_⟩ fun a ha' => ?_
  · by_cases hm : j ∈ ats rs
    · obtain ⟨kk, w, g1, g2, g3, g4⟩ := footL_at q1 hm
      exact ap (A1 j) (List.mem_of_getElem? g4) a ha' m
    · rcases fr a ha' with z | ⟨T, hT, z⟩
      · obtain ⟨o, z'⟩ := R1.there m
        rw [z] at z'; cases z'
      · exact out hm m T hT z
  · rcases fr a ha' with z | ⟨T, hT, z⟩
    · exact e1.back z
    · exact inA hT z
theorem de_call {n : Nat} (Fn : FnD X.prog X.w X.K X.mg X.base k f fd ps F) (hr : Room k X.A) (hm : X.mg x = some (.ref f)) (hk : PySem.W.keepIn X.K (.ref f) = true) (hb : Binds X.K fd ps []) (ha : DA X (e :: es) fa) [hF : KpF F] (hg : Gl X x := by rfl) (hn : n = ps.length := by rfl) (hdb : (x == ("__debug__" : Str)) = false := by decide)
    (he : starEach (e :: es) X.env = (false, eval e X.env) :: starEach es X.env := by rfl) (hpl : (backTo pos (starEach es X.env)).any (·.1) = false := by rfl) : DE X (.Call (.Name x p) (e :: es) [] pos) (fFn n F fa) := by
  subst hn
  intro ρ rr ρ' hf
  obtain ⟨rs, ρ1, xs, r, ys, h1, nd, h2, hn, h3, rfl, rfl⟩ := fFn_inv hf
  exact PE.imp (pe_call Fn hr hg hm hk hb .nil pass0 (ha _ _ _ h1) hdb he hpl) fun σ H Q h => fn_ent nd h2 hn h3 (hF.kp _ _ _ h3) h
end
end L2.CF
namespace L2.CF
open PySem PySem.Spec PyProof.Rows
variable {K : PySem.W.Frag}
mutual
def toPy : D → PyData
  | .non => .none
  | .bl b => .bool b
  | .int i => .int i
  | .str x => .str x
  | .tup l => .tuple (toPys l)
  | .lst l => .list (toPys l)
  | .dct _ => .dict []
  | .exc _ => .dict []
  | .ptr _ => .dict []
  | .any => .dict []
def toPys : List D → List PyData
  | [] => []
  | d :: ds => toPy d :: toPys ds
end
def okD (d : D) : Bool := (toPy d).canLay0 && decide ((toPy d).depth ≤ 60)
def eqD (d e : D) : Bool := PyData.eqv (toPy d) (toPy e)
def toD : RV → Option D
  | .p d => some d
  | .L l => some (.lst l)
  | .K _ => none
  | .S _ _ _ => none
mutual
theorem reads_of {X : Cx} {pins : List (Addr × Obj)} {σ : St} {G H : Hp} {s : Shared} (I : Inv X pins σ H s) (l : Le G H) : ∀ {v : V} {d : D} {u : Value}, Pu X.K G v d → (toPy d).canLay0 = true → RelV v u → ∃ as, Reads s.heap u (toPy d) as
  | _, _, _, .non, _, r => by cases r; exact ⟨_, .none⟩
  | _, _, _, .bl, _, r => by cases r; exact ⟨_, .bool _⟩
  | _, _, _, .int, _, r => by obtain ⟨t, rfl⟩ := r; exact ⟨_, .int _ _⟩
  | _, _, _, .str, _, r => by obtain ⟨t, rfl⟩ := r; exact ⟨_, .str _ _⟩
  | _, _, _, .tup sq z, c, r => by
    cases r
    obtain ⟨its, rv, p, _⟩ := I.tuple (sqT_mono l sq)
    obtain ⟨as, h⟩ := readss_of I l z (by simpa [toPy, PyData.canLay0] using c) rv
    obtain ⟨o, h1, h2, n, h3⟩ := p
    exact ⟨_, .tuple h1 h2 h3 (by simpa using h)⟩
  | _, _, _, .lst sq z, c, r => by
    cases r
    obtain ⟨its, rv, p, _⟩ := I.list (sqL_mono l sq)
    obtain ⟨as, h⟩ := readss_of I l z (by simpa [toPy, PyData.canLay0] using c) rv
    obtain ⟨o, h1, h2, n, h3⟩ := p.isList
    exact ⟨_, .list h1 h2 h3 (by simpa using h)⟩
  | _, _, _, .dct _ _, c, _ => by simp [toPy, PyData.canLay0] at c
  | _, _, _, .exc _ _, c, _ => by simp [toPy, PyData.canLay0] at c
  | _, _, _, .ptr, c, _ => by simp [toPy, PyData.canLay0] at c
  | _, _, _, .any, c, _ => by simp [toPy, PyData.canLay0] at c
theorem readss_of {X : Cx} {pins : List (Addr × Obj)} {σ : St} {G H : Hp} {s : Shared} (I : Inv X pins σ H s) (l : Le G H) : ∀ {vs : List V} {ds : List D} {us : List Value}, Pus X.K G vs ds → PyData.canLayAll0 (toPys ds) = true → Vals vs us → ∃ as, ReadsAll s.heap us (toPys ds) as
  | _, _, _, .nil, _, .nil => ⟨_, .nil⟩
  | _, _, _, .cons h1 h2, c, .cons r1 r2 => by
    simp only [toPys, PyData.canLayAll0, Bool.and_eq_true] at c
    obtain ⟨as, q1⟩ := reads_of I l h1 c.1 r1
    obtain ⟨bs, q2⟩ := readss_of I l h2 c.2 r2
    exact ⟨_, .cons q1 q2⟩
end
section
variable {X : Cx}
theorem reads_rv {pins : List (Addr × Obj)} {σ : St} {G H : Hp} {s : Shared} (I : Inv X pins σ H s) (l : Le G H) {v : V} {r : RV} {S : List Addr} {d : D} {u : Value} (h : RepV X.K G H v r S) (e : toD r = some d) (c : (toPy d).canLay0 = true) (rl : RelV v u) : ∃ as, Reads s.heap u (toPy d) as := by
  cases r with
  | p d' => cases e; exact reads_of I l h.2 c rl
  | L ds =>
    cases e
    obtain ⟨a, vs, rfl, _, h1, _, z⟩ := h
    cases rl
    obtain ⟨its, rv, p, _⟩ := I.list (SqL.of h1)
    obtain ⟨as, q⟩ := readss_of I l z (by simpa [toPy, PyData.canLay0] using c) rv
    obtain ⟨o, h1, h2, n, h3⟩ := p.isList
    exact ⟨_, .list h1 h2 h3 (by simpa using q)⟩
  | K ds => cases e
  | S ds b ms => cases e
def gEqN (neg : Bool) : G2 := fun x y => (toD x).bind fun d => (toD y).bind fun e => if okD d && okD e then some (.p (.bl (neg ^^ eqD d e))) else none
theorem gEqN_inv {neg : Bool} {x y r : RV} (h : gEqN neg x y = some r) : ∃ d e, toD x = some d ∧ toD y = some e ∧ okD d = true ∧ okD e = true ∧ r = .p (.bl (neg ^^ eqD d e)) := by
  unfold gEqN at h
  obtain ⟨d, h1, h⟩ := obi h
  obtain ⟨e, h2, h⟩ := obi h
  split at h
  · next c =>
    rw [Bool.and_eq_true] at c
    cases h
    exact ⟨d, e, h1, h2, c.1, c.2, rfl⟩
  · cases h
theorem okD_lay {d : D} (h : okD d = true) : (toPy d).canLay0 = true ∧ (toPy d).depth ≤ 60 := by
  unfold okD at h
  rw [Bool.and_eq_true] at h
  exact ⟨h.1, of_decide_eq_true h.2⟩
abbrev gEq : G2 := gEqN false
abbrev gNe : G2 := gEqN true
theorem gEqN_bl {neg : Bool} : ∀ x y r, gEqN neg x y = some r → ∃ k, r = .p (.bl k) := fun x y r h => by
  obtain ⟨_, _, _, _, _, _, rfl⟩ := gEqN_inv h
  exact ⟨_, rfl⟩
theorem o_eq (hu : X.A.units + 64 < cLine) : OpD X (compareOp .Eq) gEq := by
  intro x y r e pins s σ H vx vy ux uy Q I rx ry ⟨G, Sx, Sy, l, hx, hy, q⟩
  obtain ⟨d, e2, h1, h2, h3, h4, rfl⟩ := gEqN_inv e
  obtain ⟨as, qa⟩ := reads_rv I l hx h1 (okD_lay h3).1 rx
  obtain ⟨bs, qb⟩ := reads_rv I l hy h2 (okD_lay h4).1 ry
  have h5 := (okD_lay h3).2
  refine SeqAt.compareEq_reads qa qb (okD_lay h3).1 (okD_lay h4).1 (by omega) ⟨.bl _, H, I, rfl, ?_⟩
  have z := q (.bl (eqD d e2)) G H [] (Al.refl l) ⟨rfl, by simp only [Bool.false_xor]; exact .bl⟩ (by simp)
  exact z
theorem o_ne (hu : X.A.units + 64 < cLine) : OpD X (compareOp .NotEq) gNe := by
  intro x y r e pins s σ H vx vy ux uy Q I rx ry ⟨G, Sx, Sy, l, hx, hy, q⟩
  obtain ⟨d, e2, h1, h2, h3, h4, rfl⟩ := gEqN_inv e
  obtain ⟨as, qa⟩ := reads_rv I l hx h1 (okD_lay h3).1 rx
  obtain ⟨bs, qb⟩ := reads_rv I l hy h2 (okD_lay h4).1 ry
  have h5 := (okD_lay h3).2
  refine SeqAt.compareNe_reads qa qb (okD_lay h3).1 (okD_lay h4).1 (by omega) ⟨.bl _, H, I, rfl, ?_⟩
  have z := q (.bl (!eqD d e2)) G H [] (Al.refl l) ⟨rfl, by simp only [Bool.true_xor]; exact .bl⟩ (by simp)
  exact z
def gInN (neg : Bool) : G2 := fun x y => (toD x).bind fun d => match toD y with
  | some (.lst l) => if okD d && okD (.lst l) then some (.p (.bl (neg ^^ l.any fun e => eqD e d))) else none
  | some (.tup l) => if okD d && okD (.tup l) then some (.p (.bl (neg ^^ l.any fun e => eqD e d))) else none
  | _ => none
theorem any_py {d : D} : ∀ l : List D, ((toPys l).any fun y => PyData.eqv y (toPy d)) = l.any fun e => eqD e d
  | [] => rfl
  | x :: l => by simp only [toPys, List.any_cons, any_py l, eqD]
theorem gInN_bl {neg : Bool} : ∀ x y r, gInN neg x y = some r → ∃ k, r = .p (.bl k) := fun x y r h => by
  unfold gInN at h
  obtain ⟨d, h1, h⟩ := obi h
  split at h
  · split at h
    · cases h; exact ⟨_, rfl⟩
    · cases h
  · split at h
    · cases h; exact ⟨_, rfl⟩
    · cases h
  · cases h
theorem o_inN {neg : Bool} (hu : X.A.units + 64 < cLine) : OpD X (compareOp (if neg then .NotIn else .In)) (gInN neg) := by
  intro x y r e pins s σ H vx vy ux uy Q I rx ry ⟨G, Sx, Sy, l, hx, hy, q⟩
  unfold gInN at e
  obtain ⟨d, h1, e⟩ := obi e
  split at e
  · next ll h2 =>
    split at e
    · next c =>
      rw [Bool.and_eq_true] at c
      cases e
      obtain ⟨as, qa⟩ := reads_rv I l hx h1 (okD_lay c.1).1 rx
      obtain ⟨bs, qb⟩ := reads_rv I l hy h2 (okD_lay c.2).1 ry
      have h5 := (okD_lay c.1).2
      have h6 : PyData.canLayAll0 (toPys ll) = true := by simpa [toPy, PyData.canLay0] using (okD_lay c.2).1
      cases neg with
      | false =>
        refine SeqAt.in_list_reads qb qa h6 (okD_lay c.1).1 (by omega) ⟨.bl _, H, I, rfl, ?_⟩
        rw [any_py]
        exact q (.bl (ll.any fun e => eqD e d)) G H [] (Al.refl l) ⟨rfl, by simp only [Bool.false_xor]; exact .bl⟩ (by simp)
      | true =>
        refine SeqAt.notIn_list_reads qb qa h6 (okD_lay c.1).1 (by omega) ⟨.bl _, H, I, rfl, ?_⟩
        rw [any_py]
        exact q (.bl (!ll.any fun e => eqD e d)) G H [] (Al.refl l) ⟨rfl, by simp only [Bool.true_xor]; exact .bl⟩ (by simp)
    · cases e
  · next ll h2 =>
    split at e
    · next c =>
      rw [Bool.and_eq_true] at c
      cases e
      obtain ⟨as, qa⟩ := reads_rv I l hx h1 (okD_lay c.1).1 rx
      obtain ⟨bs, qb⟩ := reads_rv I l hy h2 (okD_lay c.2).1 ry
      have h5 := (okD_lay c.1).2
      have h6 : PyData.canLayAll0 (toPys ll) = true := by simpa [toPy, PyData.canLay0] using (okD_lay c.2).1
      cases neg with
      | false =>
        refine SeqAt.in_tuple_reads qb qa h6 (okD_lay c.1).1 (by omega) ⟨.bl _, H, I, rfl, ?_⟩
        rw [any_py]
        exact q (.bl (ll.any fun e => eqD e d)) G H [] (Al.refl l) ⟨rfl, by simp only [Bool.false_xor]; exact .bl⟩ (by simp)
      | true =>
        refine SeqAt.notIn_tuple_reads qb qa h6 (okD_lay c.1).1 (by omega) ⟨.bl _, H, I, rfl, ?_⟩
        rw [any_py]
        exact q (.bl (!ll.any fun e => eqD e d)) G H [] (Al.refl l) ⟨rfl, by simp only [Bool.true_xor]; exact .bl⟩ (by simp)
    · cases e
  · cases e
theorem o_notin (hu : X.A.units + 64 < cLine) : OpD X (compareOp .NotIn) (gInN true) := o_inN (neg := true) hu
end
end L2.CF
namespace L2.CF
open PySem PySem.Spec PyProof.Rows
variable {K : PySem.W.Frag}
section
variable {X : Cx} {a b c e : Expr} {es : List Expr} {pos p : Pos} {fa fb fc fe : FE} {P : Nat}
def f1 (g : RV → Option RV) (f : FE) : FE := fun ρ => (f ρ).bind fun p => (res p.2 p.1).bind fun x => (g x).map fun r => (.own r, p.2)
theorem f1_inv {g : RV → Option RV} {f : FE} {ρ ρ' : DS} {rr : RR} (h : f1 g f ρ = some (rr, ρ')) : ∃ ra x r, f ρ = some (ra, ρ') ∧ res ρ' ra = some x ∧ g x = some r ∧ rr = .own r := by
  unfold f1 at h
  obtain ⟨⟨ra, ρ1⟩, h1, h⟩ := obi h
  obtain ⟨x, h3, h⟩ := obi h
  obtain ⟨r, h5, h⟩ := omi h
  cases h
  exact ⟨ra, x, r, h1, h3, h5, rfl⟩
instance {g : RV → Option RV} [h : KpE P fa] : KpE P (f1 g fa) := ⟨fun ρ rr ρ' hf => by
  obtain ⟨ra, x, r, h1, _⟩ := f1_inv hf
  exact h.kp _ _ _ h1⟩
def gNeg : RV → Option RV
  | .p (.int i) => some (.p (.int (-i)))
  | _ => none
theorem de_neg (ha : DE X a fa) : DE X (.UnaryOp .USub a pos) (f1 gNeg fa) := by
  intro ρ rr ρ' hf
  obtain ⟨ra, x, r, h1, h2, h3, rfl⟩ := f1_inv hf
  unfold gNeg at h3
  split at h3
  · next i =>
    cases h3
    refine PE.imp (pe_un un_neg (ha _ _ _ h1)) fun σ H Q ⟨G, A, R, k⟩ => ⟨G, A, R, fun v G1 H1 A1 S e1 R1 q1 f1 => ?_⟩
    obtain ⟨S', hx⟩ := res_of R1 q1 h2
    exact ⟨i, pu_int hx, k _ G1 H1 A1 [] e1 R1 ⟨⟨rfl, .int⟩, by simp⟩ (by simp)⟩
  · cases h3
def blOf : RR → Option Bool
  | .own (.p (.bl b)) => some b
  | _ => none
def tyD : RV → Option String
  | .p .non => some "NoneType"
  | .p (.bl _) => some "bool"
  | .p (.int _) => some "int"
  | .p (.str _) => some "str"
  | .p (.tup _) => some "tuple"
  | .p (.lst _) => some "list"
  | .p (.dct _) => some "dict"
  | .p (.exc _) => none
  | .p (.ptr _) => none
  | .p .any => none
  | .L _ => some "list"
  | .K _ => some "dict"
  | .S _ _ _ => none
def isTy (T : String) (t : String) : Bool := t == T || (T == "int" && t == "bool")
theorem kit_ok {t T : String} (ht : t ∈ ["NoneType", "bool", "int", "str", "list", "dict", "tuple"]) (hT : T ∈ ["bool", "int", "str", "list", "dict", "tuple"]) : PySem.W.kitOne K (.type t) (.type T) = some (isTy T t) := by
  simp only [List.mem_cons, List.mem_singleton, List.not_mem_nil, or_false] at ht hT
  rcases ht with rfl | rfl | rfl | rfl | rfl | rfl | rfl <;> rcases hT with rfl | rfl | rfl | rfl | rfl | rfl <;> first | rfl | decide +kernel
theorem tyD_mem {r : RV} {t : String} (h : tyD r = some t) : t ∈ ["NoneType", "bool", "int", "str", "list", "dict", "tuple"] := by
  unfold tyD at h
  split at h <;> cases h <;> decide
theorem isinst_rv {pins : List (Addr × Obj)} {σ : St} {G H : Hp} {s : Shared} {E : Value → Shared → Prop} {Q : Value → Shared → Prop} {v : V} {r : RV} {S : List Addr} {u : Value} {t T : String} (I : Inv X pins σ H s) (l : Le G H) (h : RepV X.K G H v r S) (rl : RelV v u) (ht : tyD r = some t)
    (hT : T ∈ ["bool", "int", "str", "list", "dict", "tuple"]) (q : ∀ tk, Q (.bool (isTy T t)) { s with toks := tk }) : wpAny (model X.prog X.w) X.A (call (.builtin "isinstance") [u, .type T]) Q E s := by
  have e : PySem.W.kitOne X.K (.type t) (.type T) = some (isTy T t) := kit_ok (tyD_mem ht) hT
  cases r with
  | p d =>
    obtain ⟨_, h⟩ := h
    cases h with
    | non => cases ht; cases rl; exact PySem.W.kia_one PySem.W.kitx_none I.kIn True.intro e (fun z => nomatch z) q
    | bl => cases ht; cases rl; exact PySem.W.kia_one PySem.W.kitx_bool I.kIn True.intro e (fun z => nomatch z) q
    | int => cases ht; obtain ⟨t, rfl⟩ := rl; exact PySem.W.kia_one PySem.W.kitx_int I.kIn True.intro e (fun z => nomatch z) q
    | str => cases ht; obtain ⟨t, rfl⟩ := rl; exact PySem.W.kia_one PySem.W.kitx_str I.kIn True.intro e (fun z => nomatch z) q
    | tup sq z =>
      cases ht; cases rl
      obtain ⟨its, rv, ⟨o, h1, h2, _⟩, _⟩ := I.tuple (sqT_mono l sq)
      exact PySem.W.kia_one PySem.W.kitx_tuple I.kIn ⟨o, h1, h2⟩ e (fun z => nomatch z) q
    | lst sq z =>
      cases ht; cases rl
      obtain ⟨its, rv, pl, _⟩ := I.list (sqL_mono l sq)
      obtain ⟨o, h1, h2, _⟩ := pl.isList
      exact PySem.W.kia_one PySem.W.kitx_list I.kIn ⟨o, h1, h2⟩ e (fun z => nomatch z) q
    | dct sq z =>
      cases ht; cases rl
      obtain ⟨_, _, vs, _, pp⟩ := I.hok _ _ (l _ _ sq)
      obtain ⟨o, es, ep, h1, h2, _⟩ := pp
      exact PySem.W.kia_one PySem.W.kitx_dict I.kIn ⟨o, h1, h2.1⟩ e (fun z => nomatch z) q
    | exc sq z => cases ht
    | ptr => cases ht
    | any => cases ht
  | L ds =>
    cases ht
    obtain ⟨a, vs, rfl, _, h1, _⟩ := h
    cases rl
    obtain ⟨its, rv, pl, _⟩ := I.list (SqL.of h1)
    obtain ⟨o, h1, h2, _⟩ := pl.isList
    exact PySem.W.kia_one PySem.W.kitx_list I.kIn ⟨o, h1, h2⟩ e (fun z => nomatch z) q
  | K ds =>
    cases ht
    obtain ⟨a, vs, rfl, _, h1, _⟩ := h
    cases rl
    obtain ⟨_, _, vs, _, pp⟩ := I.hok _ _ h1
    obtain ⟨o, es, ep, h1, h2, _⟩ := pp
    exact PySem.W.kia_one PySem.W.kitx_dict I.kIn ⟨o, h1, h2.1⟩ e (fun z => nomatch z) q
  | S ds b ms => cases ht
def fIsi (T : String) (f : FE) : FE := f1 (fun x => (tyD x).map fun t => .p (.bl (isTy T t))) f
instance {T : String} [h : KpE P fa] : KpE P (fIsi T fa) := inferInstanceAs (KpE P (f1 _ fa))
theorem de_isi {T : String} {x : Str} {p2 : Pos} (hg : Gl X "isinstance") (hm : X.mg "isinstance" = none) (hg2 : Gl X x) (hm2 : X.mg x = none) (hv2 : bootBuiltins x = some (.type T)) (hT : T ∈ ["bool", "int", "str", "list", "dict", "tuple"]) (ha : DE X a fa)
    (hv : bootBuiltins "isinstance" = some (.builtin "isinstance") := by first | exact PySem.boot_isinstance | rfl) (hn : x ≠ "__name__" := by decide) (hdb : (x == ("__debug__" : Str)) = false := by decide)
    (he : starEach [a, .Name x p2] X.env = (false, eval a X.env) :: starEach [.Name x p2] X.env := by rfl) (he2 : starEach [.Name x p2] X.env = (false, eval (.Name x p2) X.env) :: starEach [] X.env := by rfl) (hpl : (backTo pos (starEach [.Name x p2] X.env)).any (·.1) = false := by rfl) :
    DE X (.Call (.Name "isinstance" p) [a, .Name x p2] [] pos) (fIsi T fa) := by
  intro ρ rr ρ' hf
  obtain ⟨ra, y, r, h1, h2, h3, rfl⟩ := f1_inv hf
  obtain ⟨t, h4, h5⟩ := omi h3
  cases h5
  have hc : CallR X (.builtin "isinstance") (fun vs H Q => ∃ G v S, Le G H ∧ vs = [v, .ty T] ∧ RepV X.K G H v y S ∧ Q (.bl (isTy T t)) H) := by
    intro pins s σ H xs us Q I r ⟨G, v, S, l, e, hv, q⟩
    subst e
    obtain ⟨u, w', rfl, ru, rw'⟩ := vals2 r
    cases (show w' = Value.type T from rw')
    exact isinst_rv I l hv ru h4 hT fun tk => ⟨.bl _, H, I.tok tk, rfl, q⟩
  refine PE.imp (pe_callB hc hg hm hv (pa_cons (ha _ _ _ h1) (pa_cons (pe_bltn hg2 hm2 hv2 (v := .ty T) rfl hn hdb) pa_nil he2) he) (by decide) (by decide) he hpl) fun σ H Q ⟨G, A, R, k⟩ => ⟨G, A, R, fun v G1 H1 A1 S v1 R1 q1 f1 => ?_⟩
  obtain ⟨S', hx⟩ := res_of R1 q1 h2
  exact ⟨G1, v, S', R1.imm, rfl, hx, k _ G1 H1 A1 [] v1 R1 ⟨⟨rfl, .bl⟩, by simp⟩ (by simp)⟩
def sAsg (f : FE) (asg : FG) : FS := fun ρ => (f ρ).bind fun p => match p.1 with
  | .own (.p d) => (asg d p.2).map fun ρ2 => (.nx, ρ2)
  | _ => none
theorem ds_asg {tg : Expr} {asg : FG} (he : DE X e fe) [hk : KpE P fe] (hg : DG P X tg asg) (hs : swapsWithSole [tg] e pos.line X.env = pure false := by rfl) (hw : swappedStores [tg] e X.env = pure none := by rfl)
    (h1 : (assignEach [tg] X.env).map (·.2) = [assign tg X.env] := by rfl) : DSt P X (.Assign [tg] e pos) (sAsg fe asg) := by
  intro ρ fl ρ' hf
  unfold sAsg at hf
  obtain ⟨⟨ra, ρ1⟩, e1, hf⟩ := obi hf
  match ra, e1, hf with
  | .own (.p d), e1, hf =>
    obtain ⟨ρ2, e2, hf⟩ := omi hf
    cases hf
    refine PS.imp (ps_asg (he _ _ _ e1) (hg _ _ _ e2) hs hw h1) fun D σ H ⟨G, A, R, kk⟩ => ⟨G, A, R, fun v G1 H1 A1 S v1 R1 q1 f1 => ?_⟩
    exact ⟨G1, A1, R1, q1.1.2, fun σ2 G2 H2 A2 v2 R2 p2 => kk σ2 G2 H2 A2 (v1.trans v2) R2 ((hk.kp _ _ _ e1).pin.trans p2)⟩
def whileD (t : FT) (body : FS) : Nat → DS → Option (FL × DS)
  | 0, _ => none
  | n + 1, ρ => (t ρ).bind fun q => if q.1 then (body q.2).bind fun r => match r.1 with
      | .nx => whileD t body n r.2
      | .ct => whileD t body n r.2
      | .bk => some (.nx, r.2)
      | .rt x => some (.rt x, r.2)
    else some (.nx, q.2)
def tAllT (K : PySem.W.Frag) (f : FT) : TT := fun σ H Q => ∃ ρ b ρ', f ρ = some (b, ρ') ∧ tDT K ρ b ρ' σ H Q
theorem DT.all {f : FT} (h : DT X a f) : PT X a (tAllT X.K f) := fun pins s σ H Q I ⟨ρ, b, ρ', e, q⟩ => h ρ b ρ' e pins s σ H Q I q
def sWhile (n : Nat) (t : FT) (body : FS) : FS := fun ρ => whileD t body n ρ
theorem ds_while {t : FT} {body : List Stmt} {f : FS} (n : Nat) (hp : PassesOwn (model X.prog X.w) X.A X.env X.xe) (hc : DT X c t) [ht : KpT P t] (hb : DSs P X body f) : DSt P X (.While c body [] pos) (sWhile n t f) := by
  intro ρ fl ρ' hf
  refine PS.imp (ps_while hp hc.all hb.all) fun D σ H ⟨G, A, R, k⟩ => ?_
  refine ⟨fun m σ1 H1 => ∃ G1 A1 ρ1, Evo G H A G1 H1 A1 ∧ Rep X.K G1 H1 σ1 ρ1 A1 ∧ Pin P ρ σ ρ1 σ1 ∧ whileD t f m ρ1 = some (fl, ρ'), ⟨n, G, A, ρ, Evo.refl _ _ _, R, .refl, hf⟩, ?_⟩
  rintro m σ1 H1 ⟨G1, A1, ρ1, v1, R1, p1, hw⟩
  cases m with
  | zero => cases hw
  | succ m =>
    unfold whileD at hw
    obtain ⟨⟨bb, ρ2⟩, e1, hw⟩ := obi hw
    refine ⟨ρ1, bb, ρ2, e1, G1, A1, R1, fun G2 H2 A2 v2 R2 => ?_⟩
    have p2 : Pin P ρ σ ρ2 σ1 := p1.trans (ht.kp _ _ _ e1).pin
    cases bb with
    | true =>
      have hw := hw
      simp only [if_true] at hw
      obtain ⟨⟨fl1, ρ3⟩, e2, hw⟩ := obi hw
      refine iteT ⟨fun σ' H' => ∃ G3 A3, Evo G H A G3 H' A3 ∧ Rep X.K G3 H' σ' ρ3 A3 ∧ Pin P ρ σ ρ3 σ' ∧ whileD t f m ρ3 = some (fl, ρ'), fun σ' H' ⟨G3, A3, h1, h2, h3, h4⟩ => ⟨m, Nat.lt_succ_self m, G3, A3, ρ3, h1, h2, h3, h4⟩, ρ2, fl1, ρ3, e2, G2, A2, R2, ?_⟩
      cases fl1 with
      | nx => exact fun σ3 G3 H3 A3 v3 R3 p3 => ⟨G3, A3, (v1.trans v2).trans v3, R3, p2.trans p3, hw⟩
      | ct => exact fun σ3 G3 H3 A3 v3 R3 p3 => ⟨G3, A3, (v1.trans v2).trans v3, R3, p2.trans p3, hw⟩
      | bk => cases hw; exact fun σ3 G3 H3 A3 v3 R3 p3 => k σ3 G3 H3 A3 ((v1.trans v2).trans v3) R3 (p2.trans p3)
      | rt r =>
        cases hw
        refine fun v σ3 G3 H3 A3 S v3 R3 p3 hr ap fr => k v σ3 G3 H3 A3 S ((v1.trans v2).trans v3) R3 (p2.toR.trans p3) hr ap fun a ha => ?_
        rcases fr a ha with z | ⟨i, z⟩
        · exact (v1.trans v2).back z
        · exact (v1.trans v2).foot i a z
    | false =>
      cases hw
      exact iteF (k σ1 G2 H2 A2 (v1.trans v2) R2 p2)
def mulLen (x : Str) (n : Int) : Bool := decide (0 ≤ n ∧ n < 2 ^ 40 ∧ x.length ≤ 1000 ∧ x.length * n.toNat ≤ sizeLine)
def gMulS : G2
  | .p (.str x), .p (.int n) => if mulLen x n then some (.p (.str (Txt.mul x n))) else none
  | .p (.int i), .p (.int j) => if mulOk i j then some (.p (.int (i * j))) else none
  | _, _ => none
end
end L2.CF
namespace L2.CF
open PySem PySem.Spec PyProof.Rows
variable {K : PySem.W.Frag}
section
variable {X : Cx} {a b c e : Expr} {es : List Expr} {pos p p2 : Pos} {fa fb fc fe : FE} {P : Nat}
theorem o_mulS : OpD X (binaryOp .Mult) gMulS := by
  intro x y r e
  unfold gMulS at e
  split at e
  · next x n =>
    split at e
    · next hz =>
      cases e
      intro pins s σ H vx vy ux uy Q I rx ry ⟨G, Sx, Sy, l, hx, hy, q⟩
      cases pu_str hx
      cases pu_int hy
      obtain ⟨t, rfl⟩ := rx
      obtain ⟨t', rfl⟩ := ry
      have z := of_decide_eq_true hz
      refine SB.mul ⟨?_, fun h1 h2 h3 => ?_, fun h1 h2 => ?_⟩ fun t' k => ⟨.str _, H, I.tok k, ⟨_, rfl⟩, q _ G H [] (Al.refl l) ⟨rfl, .str⟩ (by simp)⟩
      · have e1 : decide (n < -(2 ^ 63 : Int)) = false := decide_eq_false (by omega)
        have e2 : decide (n ≥ 2 ^ 63) = false := decide_eq_false (by omega)
        rw [e1, e2]; rfl
      · have h4 : (x.length : Int) * n ≤ 1000 * 2 ^ 40 := Int.mul_le_mul (by omega) (by omega) (by omega) (by decide)
        have h5 : (x.length : Int) ≤ (2 ^ 63 - 1) / n := (Int.le_ediv_iff_mul_le (by omega)).mpr (Int.le_trans h4 (by decide))
        omega
      · unfold Builtin.Str.tooLong
        exact decide_eq_false (by omega)
    · cases e
  · next i j =>
    split at e
    · next hz =>
      cases e
      refine OpR.imp op_mul fun vx vy H Q ⟨G, Sx, Sy, l, hx, hy, q⟩ => ?_
      have z := of_decide_eq_true hz
      exact ⟨i, j, pu_int hx, pu_int hy, z, q _ G H [] (Al.refl l) ⟨rfl, .int⟩ (by simp)⟩
    · cases e
  · cases e
abbrev FO := DS → Option (Option Int × DS)
def tDO (K : PySem.W.Frag) (ρ : DS) (o : Option Int) (ρ' : DS) : TO := fun σ H Q => ∃ G A, Rep K G H σ ρ A ∧ ∀ G' H' A', Evo G H A G' H' A' → Rep K G' H' σ ρ' A' → Q o H'
def DO (X : Cx) (e : Option Expr) (f : FO) : Prop := ∀ ρ o ρ', f ρ = some (o, ρ') → PO X e (tDO X.K ρ o ρ')
theorem PO.imp {e : Option Expr} {t t' : TO} (h : PO X e t) (i : ∀ σ H Q, t' σ H Q → t σ H Q) : PO X e t' := fun pins s σ H Q I q => h pins s σ H Q I (i σ H Q q)
def foN : FO := fun ρ => some (none, ρ)
def foS (f : FE) : FO := fun ρ => (f ρ).bind fun p => match p.1 with
  | .own (.p (.int i)) => some (some i, p.2)
  | _ => none
theorem do_none : DO X none foN := by
  intro ρ o ρ' hf
  cases hf
  exact PO.imp po_none fun σ H Q ⟨G, A, R, k⟩ => k G H A (Evo.refl _ _ _) R
theorem do_some (he : DE X e fe) : DO X (some e) (foS fe) := by
  intro ρ o ρ' hf
  unfold foS at hf
  obtain ⟨⟨ra, ρ1⟩, e1, hf⟩ := obi hf
  match ra, e1, hf with
  | .own (.p (.int i)), e1, hf =>
    cases hf
    exact PO.imp (po_some (he _ _ _ e1)) fun σ H Q ⟨G, A, R, k⟩ => ⟨G, A, R, fun v G1 H1 A1 S v1 R1 q1 f1 => ⟨i, pu_int q1.1, k G1 H1 A1 v1 R1⟩⟩
class KpO (P : Nat) (f : FO) : Prop where kp : ∀ ρ o ρ', f ρ = some (o, ρ') → Kp P ρ ρ'
instance : KpO P foN := ⟨fun ρ o ρ' h => by cases h; exact Kp.refl _⟩
instance [h : KpE P fe] : KpO P (foS fe) := ⟨fun ρ o ρ' hf => by
  unfold foS at hf
  obtain ⟨⟨ra, ρ1⟩, e1, hf⟩ := obi hf
  split at hf
  · cases hf; exact h.kp _ _ _ e1
  · cases hf⟩
def rdSl (K : PySem.W.Frag) (x : RV) (lo hi : Option Int) (r : RV) : V → Option Int → Option Int → Hp → VK → Prop := fun vx lo' hi' H Q => lo' = lo ∧ hi' = hi ∧ ∃ G Sx, Le G H ∧ RepV K G H vx x Sx ∧ ∀ v G' H' S, Al G H G' H' → RepV K G' H' v r S → (∀ a ∈ S, H a = none) → Q v H'
def cutD (xs : List D) (lo hi : Option Int) : List D := (xs.drop (HT.sIx xs.length 0 lo)).take (HT.sIx xs.length xs.length hi - HT.sIx xs.length 0 lo)
def gSl (x : RV) (lo hi : Option Int) : Option RV := match x with
  | .p (.str z) => if z.length ≤ sizeLine then some (.p (.str (Txt.slice z lo hi))) else none
  | .p (.tup l) => if HT.sIx l.length 0 lo = 0 ∧ HT.sIx l.length l.length hi = l.length then some (.p (.tup l)) else some (.p (.tup (cutD l lo hi)))
  | x => (itemsL x).map fun l => .L (cutD l lo hi)
theorem cut_pus {G : Hp} {vs : List V} {ds : List D} (z : Pus K G vs ds) (lo hi : Option Int) : Pus K G (cutV vs lo hi) (cutD ds lo hi) := by
  unfold cutV cutD
  rw [z.length]
  exact (z.drop _).take _
theorem part_of {v : Value} {o : Option Int} (h : IsPart v o) : ∃ q : Option (Int × Tok), v = partValue q ∧ q.map (·.1) = o := by
  cases h with
  | none => exact ⟨none, rfl, rfl⟩
  | int i t => exact ⟨some (i, t), rfl, rfl⟩
theorem sl_str {x : Str} {lo hi : Option Int} (hz : x.length ≤ sizeLine) : SlR X (rdSl X.K (.p (.str x)) lo hi (.p (.str (Txt.slice x lo hi)))) := by
  intro pins s σ H vx v vl vu lo' hi' sl Q I rx hs pl pu ⟨e1, e2, G, Sx, l, hx, q⟩
  subst e1 e2
  cases pu_str hx
  obtain ⟨t, rfl⟩ := rx
  refine ⟨"str", _, PySem.F.slot_str_getitem.lookup, typeIs_str _ _ _, ?_⟩
  obtain ⟨q1, rfl, e1⟩ := part_of pl
  obtain ⟨q2, rfl, e2⟩ := part_of pu
  subst e1 e2
  obtain ⟨o, h1, h2, h3⟩ := hs
  refine wpAny_getItem_str_slice (l := q1) (u := q2) (st := none) ⟨o, h1, h2, h3⟩ rfl (post_val_or_str ⟨Nat.le_trans (Txt.slice_le x _ _) hz, fun t' k => ?_⟩)
  exact ⟨.str _, H, I.tok k, ⟨_, rfl⟩, q _ G H [] (Al.refl l) ⟨rfl, .str⟩ (by simp)⟩
theorem SlR.imp {r r' : V → Option Int → Option Int → Hp → VK → Prop} (h : SlR X r) (i : ∀ x lo hi H Q, r' x lo hi H Q → r x lo hi H Q) : SlR X r' := fun pins s σ H x v vl vu lo hi sl Q I rx hs pl pu q => h pins s σ H x v vl vu lo hi sl Q I rx hs pl pu (i x lo hi H Q q)
theorem s_sl {x : RV} {lo hi : Option Int} {r : RV} (h : gSl x lo hi = some r) (hw : ∀ l, x = .p (.tup l) → ¬ (HT.sIx l.length 0 lo = 0 ∧ HT.sIx l.length l.length hi = l.length)) : SlR X (rdSl X.K x lo hi r) := by
  unfold gSl at h
  split at h
  · next z =>
    split at h
    · next hz => cases h; exact sl_str hz
    · cases h
  · next l =>
    rw [if_neg (hw l rfl)] at h
    cases h
    refine SlR.imp sl_tup fun vx lo' hi' H Q ⟨e1, e2, G, Sx, le, hx, q⟩ => ?_
    subst e1 e2
    obtain ⟨a, vs, rfl, sq, z⟩ := itemsT_of le hx rfl
    refine ⟨a, vs, rfl, sq, by rw [z.length]; exact hw l rfl, fun p hp => ?_⟩
    exact q _ _ _ [] (Al.frozen le hp) (new_T le hp (cut_pus z _ _)) (by simp)
  · obtain ⟨l, h1, h2⟩ := omi h
    cases h2
    refine SlR.imp sl_list fun vx lo' hi' H Q ⟨e1, e2, G, Sx, le, hx, q⟩ => ?_
    subst e1 e2
    obtain ⟨a, vs, rfl, sq, z⟩ := itemsL_of le hx h1
    exact ⟨a, vs, rfl, sq, fun p hp => q _ G _ [p] (Al.own le hp) (new_L le hp (cut_pus z _ _)) (by simpa using hp)⟩
def gSl' (x : RV) (lo hi : Option Int) : Option RV := match x with
  | .p (.tup l) => if HT.sIx l.length 0 lo = 0 ∧ HT.sIx l.length l.length hi = l.length then none else gSl x lo hi
  | x => gSl x lo hi
def fSl (f : FE) (l h : FO) : FE := fun ρ => (f ρ).bind fun p => (l p.2).bind fun q => (h q.2).bind fun t => (res t.2 p.1).bind fun x => (gSl' x q.1 t.1).map fun r => (.own r, t.2)
theorem fSl_inv {f : FE} {l h : FO} {ρ ρ' : DS} {rr : RR} (hf : fSl f l h ρ = some (rr, ρ')) : ∃ ra ρ1 lo ρ2 hi x r, f ρ = some (ra, ρ1) ∧ l ρ1 = some (lo, ρ2) ∧ h ρ2 = some (hi, ρ') ∧ res ρ' ra = some x ∧ gSl' x lo hi = some r ∧ rr = .own r := by
  unfold fSl at hf
  obtain ⟨⟨ra, ρ1⟩, h1, hf⟩ := obi hf
  obtain ⟨⟨lo, ρ2⟩, h2, hf⟩ := obi hf
  obtain ⟨⟨hi, ρ3⟩, h3, hf⟩ := obi hf
  obtain ⟨x, h4, hf⟩ := obi hf
  obtain ⟨r, h5, hf⟩ := omi hf
  cases hf
  exact ⟨ra, ρ1, lo, ρ2, hi, x, r, h1, h2, h3, h4, h5, rfl⟩
instance {l h : FO} [k1 : KpE P fe] [k2 : KpO P l] [k3 : KpO P h] : KpE P (fSl fe l h) := ⟨fun ρ rr ρ' hf => by
  obtain ⟨ra, ρ1, lo, ρ2, hi, x, r, h1, h2, h3, _⟩ := fSl_inv hf
  exact ((k1.kp _ _ _ h1).trans (k2.kp _ _ _ h2)).trans (k3.kp _ _ _ h3)⟩
theorem de_slice {lo hi : Option Expr} {l h : FO} (he : DE X e fe) (hl : DO X lo l) (hh : DO X hi h) : DE X (.Subscript e (.Slice lo hi none p2) pos) (fSl fe l h) := by
  intro ρ rr ρ' hf
  obtain ⟨ra, ρ1, lo', ρ2, hi', x, r, h1, h2, h3, h4, h5, rfl⟩ := fSl_inv hf
  have h6 : gSl x lo' hi' = some r ∧ ∀ l, x = .p (.tup l) → ¬ (HT.sIx l.length 0 lo' = 0 ∧ HT.sIx l.length l.length hi' = l.length) := by
    unfold gSl' at h5
    split at h5
    · next ll =>
      split at h5
      · cases h5
      · next z => exact ⟨h5, fun l e => by cases e; exact z⟩
    · next z => exact ⟨h5, fun l e => absurd e (z l)⟩
  refine PE.imp (pe_slice (s_sl h6.1 h6.2) (he _ _ _ h1) (hl _ _ _ h2) (hh _ _ _ h3)) fun σ H Q ⟨G, A, R, k⟩ => ?_
  refine ⟨G, A, R, fun v G1 H1 A1 S v1 R1 q1 f1 => ⟨G1, A1, R1, fun G2 H2 A2 v2 R2 => ⟨G2, A2, R2, fun G3 H3 A3 v3 R3 => ?_⟩⟩⟩
  obtain ⟨S', hx⟩ := res_of R3 (q1.evo (v2.trans v3)) h4
  refine ⟨rfl, rfl, G3, S', R3.imm, hx, fun w G4 H4 T al hr fr => ?_⟩
  exact k w G4 H4 A3 T (((v1.trans v2).trans v3).trans al.evo) (al.rep R3) ⟨hr, evo_apart (G := G3) (H := H3) (A := A3) R3 fr⟩ fun a ha => ((v1.trans v2).trans v3).back (fr a ha)
def Ite (K : PySem.W.Frag) (a : Addr) : It :=
  ⟨fun i H => ∃ xs x, SqL K H a xs ∧ xs[i]? = some x, fun i H y H' => ∃ p x, H p = none ∧ y = .ref p ∧ H' = upd H p (.tup [.int i, x]) ∧ ∀ xs, SqL K H a xs → xs[i]? = some x, fun i H => ∃ xs, SqL K H a xs ∧ xs.length ≤ i⟩
theorem turn_enum {Pg : Program} {w : World} {elts : List Expr} {x1} {tp : Pos} (a e it : Addr) (hne : e ≠ it) : Turn Pg w K (.Tuple elts x1 tp) (Ite K a) [e, it] e (fun i h => (∃ old, IsEnum h e it i old) ∧ h.IsListIter it a i) where
  mem := by simp
  obj := fun i h st b hb => by
    obtain ⟨⟨old, he⟩, o, ho, hc, hd⟩ := st
    rcases List.mem_cons.mp hb with rfl | hb
    · exact ⟨_, he, fun v z => by cases z⟩
    · have e' : b = it := by simpa using hb
      subst e'
      exact ⟨o, ho, fun v z => by rw [hd] at z; cases z⟩
  keep := fun i h h' st k => ⟨st.1.imp fun old he => k e (by simp) _ he, st.2.at fun o z => k it (by simp) o z⟩
  item := by
    intro X hP hw hK hc i pins s σ H E I hf st hg
    subst hP hw hK
    obtain ⟨⟨old, he⟩, hit⟩ := st
    obtain ⟨xs, x, hq, hx⟩ := hg
    obtain ⟨its, rv, p, hz⟩ := I.list hq
    obtain ⟨u, hu, ru⟩ := rv.get hx
    obtain ⟨f0, f1, f2, f3, f4, f5⟩ := hf e (by simp)
    obtain ⟨g0, g1, g2, g3, g4, g5⟩ := hf it (by simp)
    refine wpAny_pyNext_enum_item he hit p.isList (x := u) (by simpa using hu) hne fun h1 heo hit1 ht1 hz1 hk1 => ?_
    refine ⟨_, rfl, wpAny_letOwnedTupleGo_enum heo fun h2 he2 hs2 => ?_⟩
    have hs2 : Heap.SameBut e h1 h2 := hs2
    have elt : e < s.heap.objs.size := Heap.lt_size he
    have kp : ∀ b o, b ≠ e → b ≠ it → s.heap.get? b = some o → h2.get? b = some o := fun b o n1 n2 z => (hs2.2 b n1).trans (hk1 b o n1 n2 z)
    have tupAt : h2.get? s.heap.objs.size = some { cls := .type "tuple", data := .seq #[.int i s.toks, u] } := (hs2.2 _ (Nat.ne_of_gt elt)).trans ht1
    have fr : H s.heap.objs.size = none := I.hok.fresh (Nat.le_refl _)
    have nk : ∀ b o, H b = some o → b ≠ e ∧ b ≠ it := fun b o z => ⟨fun q => (by subst q; rw [f0] at z; cases z), fun q => (by subst q; rw [g0] at z; cases z)⟩
    have I2 : Inv X pins σ (upd H s.heap.objs.size (.tup [.int i, x])) { s with heap := h2, toks := s.toks + 1 } := by
      refine I.step (g' := s.gens) (d' := s.drawn) (ch := [e, it]) (fun b hb => ?_) (fun b o _ _ hc z _ => kp b o (fun q => hc (by simp [q])) (fun q => hc (by simp [q])) z) (fun b o _ _ hc z _ => ⟨o.slots, kp b o (fun q => hc (by simp [q])) (fun q => hc (by simp [q])) z⟩)
        (fun b o _ z n => by rw [upd_ne (Nat.ne_of_lt (Heap.lt_size z))]; exact n) (fun b o hc z => ⟨o, kp b o (fun q => hc (by simp [q])) (fun q => hc (by simp [q])) z⟩)
        (fun b ys z => by rw [upd_ne (ne_of_none z fr)]; exact z) (fun b o' ys z => by rw [upd_ne (ne_of_none z fr)]; exact z) (fun b ps z => ⟨#[], by rw [upd_ne (ne_of_none z fr), z]; simp⟩) (fun m hm => ?_) (fun b o z => ?_) I.bare
      · rcases List.mem_cons.mp hb with rfl | hb
        · exact ⟨f3, f1, f4, f5⟩
        · have e' : b = it := by simpa using hb
          subst e'
          exact ⟨g3, g1, g4, g5⟩
      · obtain ⟨o, es, ep, ho, r⟩ := hm
        exact ⟨o, es, ep, kp _ o (Ne.symm f1) (Ne.symm g1) ho, r⟩
      · by_cases eb : b = s.heap.objs.size
        · subst eb
          rw [upd_same] at z
          cases z
          exact ⟨by show 2 ≤ sizeLine; decide, [.int i s.toks, u], .cons ⟨_, rfl⟩ (.cons ru .nil), ⟨_, tupAt, rfl, _, rfl⟩⟩
        · rw [upd_ne eb] at z
          refine (I.hok b o z).stay (fun c v hc q => ?_) (fun c q => ?_) fun c q1 q2 => ?_
          · rcases hc with y | y
            · subst y
              obtain ⟨n1, n2⟩ := nk _ _ z
              exact kp _ v n1 n2 q
            · obtain ⟨n1, n2⟩ := nk _ _ y
              exact kp c v n1 n2 q
          · rw [upd_ne (ne_of_none q fr)]; exact q
          · rw [upd_ne (ne_of_none q2 fr)]; exact q2
    refine ⟨.ref s.heap.objs.size, _, I2, rfl, ⟨_, x, fr, rfl, rfl, fun ys hy => by rw [I.list_inj hy hq]; exact hx⟩, ⟨⟨u, ?_⟩, ?_⟩, fun b hb => ?_⟩
    · have e1 : ((i + 1 : Nat) : Int) = (i : Int) + 1 := by push_cast; rfl
      rw [e1]; exact he2
    · exact hit1.extBut hs2.extBut (Ne.symm hne)
    · rcases List.mem_cons.mp hb with rfl | hb
      · rw [upd_ne (Nat.ne_of_lt elt)]; exact f0
      · have e' : b = it := by simpa using hb
        subst e'
        obtain ⟨o, ho, _⟩ := hit
        rw [upd_ne (Nat.ne_of_lt (Heap.lt_size ho))]; exact g0
  done := by
    intro X hP hw hK hc i pins s σ H E I hf st hg
    subst hP hw hK
    obtain ⟨⟨old, he⟩, hit⟩ := st
    obtain ⟨xs, hq, hx⟩ := hg
    obtain ⟨its, rv, p, hz⟩ := I.list hq
    obtain ⟨g0, g1, g2, g3, g4, g5⟩ := hf it (by simp)
    have hl := rv.length
    exact wpAny_pyNext_enum_end (I.ok.hd hc) he hit p.isList (by simp; omega) fun h' eb => ⟨rfl, I.turned (t' := s.toks) (fun b o hb z => eb b o hb z) g0 g1 g3 g4 g5⟩
  self := fun A i s Q E st h => by
    obtain ⟨⟨old, he⟩, _⟩ := st
    exact wpAny_pyIter_enum he h
end
end L2.CF
namespace L2.CF
open PySem PySem.Spec PyProof.Rows
variable {K : PySem.W.Frag}
def enumD (n : Nat) : List D → List D
  | [] => []
  | d :: ds => .tup [.int n, d] :: enumD (n + 1) ds
theorem enumD_length : ∀ (ds : List D) (n : Nat), (enumD n ds).length = ds.length
  | [], _ => rfl
  | d :: ds, n => by simp [enumD, enumD_length ds (n + 1)]
theorem enumD_get : ∀ (ds : List D) (n i : Nat) {e : D}, (enumD n ds)[i]? = some e → ∃ d, ds[i]? = some d ∧ e = .tup [.int ((n + i : Nat) : Int), d]
  | [], _, _, e, h => by simp [enumD] at h
  | d :: ds, n, 0, e, h => by simp [enumD] at h; exact ⟨d, rfl, by rw [← h]; rfl⟩
  | d :: ds, n, i + 1, e, h => by
    obtain ⟨d', h1, h2⟩ := enumD_get ds (n + 1) i (e := e) (by simpa [enumD] using h)
    exact ⟨d', by simpa using h1, by rw [h2, show n + 1 + i = n + (i + 1) by omega]⟩
theorem src_enum {a : Addr} {ds : List D} {r : RV} {S : List Addr} (hl : itemsL r = some ds) : Src K (Ite K a) (enumD 0 ds) S (fun G H => RepV K G H (.ref a) r S) where
  go := fun i d G H l h hd => by
    obtain ⟨a', vs, e, sq, z⟩ := itemsL_of l h hl
    cases e
    obtain ⟨d', h1, rfl⟩ := enumD_get ds 0 i hd
    obtain ⟨v, hv, pv⟩ := z.get h1
    refine ⟨⟨vs, v, sq, hv⟩, fun x H' ⟨p, x', hp, e1, e2, y⟩ => ?_⟩
    subst e1 e2
    have q := y vs sq
    rw [hv] at q
    cases q
    rw [Nat.zero_add]
    exact ⟨_, Al.frozen l hp, (new_T l hp (.cons .int (.cons pv .nil))).2⟩
  stop := fun i G H l h hd => by
    obtain ⟨a', vs, e, sq, z⟩ := itemsL_of l h hl
    cases e
    rw [enumD_length] at hd
    exact ⟨vs, sq, by rw [z.length]; exact hd⟩
  evo := fun G H A G' H' A' e d h => e.held h d
  there := fun G H h a ha => h.there ha
section
variable {X : Cx} {P : Nat} {e : Expr} {es : List Expr} {fe : FE} {fa : FA} {pos p tp : Pos} {elts : List Expr} {x1 : Nat}
def iEnum (K : PySem.W.Frag) (ta : TA) : TI := fun σ H R => ta σ H fun vs H1 => ∃ a, vs = [.ref a] ∧ (∃ xs, SqL K H1 a xs) ∧ R (Ite K a) H1
theorem pi_enum {a : Expr} {ta : TA} (hg : Gl X "enumerate") (hm : X.mg "enumerate" = none) (ha : PA X [a] ta) (hs : starEach [a] X.env = [(false, eval a X.env)] := by rfl) (hv : bootBuiltins "enumerate" = some (.type "enumerate") := by first | exact PyProof.Rows.boot_enumerate | rfl) :
    PI X (.Tuple elts x1 tp) (.Call (.Name "enumerate" p) [a] [] pos) (iEnum X.K ta) := by
  intro pins s σ H R I h
  refine Call_ (ld_blt I hg hm hv (PyProof.Rows.callWith_type1 (thn (ha pos pins s σ H _ I h) fun us s1 ⟨vs, H1, I1, r1, q1⟩ => ?_) hs rfl))
  obtain ⟨l, e, ⟨xs, sq⟩, q⟩ := q1
  subst e
  obtain ⟨u, rfl, ru⟩ := vals1 r1
  cases ru
  obtain ⟨its, rv, pl, hz⟩ := I1.list sq
  refine call_enumerate_list pl.isList fun h' he hi hz' hk => ?_
  have I2 : Inv X pins σ H1 { s1 with heap := h' } := I1.kept (t' := s1.toks) hk
  refine wpAny_pyIter_enum he ?_
  refine ⟨s1.heap.objs.size + 1, [s1.heap.objs.size + 1, s1.heap.objs.size], _, _, H1, rfl, I2, turn_enum l _ _ (Nat.succ_ne_self _), ⟨⟨.none, he⟩, hi⟩, fun b hb => ?_, q⟩
  have hb' : b = s1.heap.objs.size + 1 ∨ b = s1.heap.objs.size := by simpa using hb
  have hge : s1.heap.objs.size ≤ b := by
    rcases hb' with rfl | rfl
    · exact Nat.le_succ _
    · exact Nat.le_refl _
  exact I1.fpOk hge (I1.hok.fresh hge)
def fiEnum (f : FA) : FI := fun ρ => (f ρ).bind fun p => match p.1 with
  | [.own r] => (itemsL r).map fun ds => (enumD 0 ds, none, p.2)
  | _ => none
theorem di_enum {a : Expr} (hg : Gl X "enumerate") (hm : X.mg "enumerate" = none) (ha : DA X [a] fa) (hs : starEach [a] X.env = [(false, eval a X.env)] := by rfl) : DI X (.Tuple elts x1 tp) (.Call (.Name "enumerate" p) [a] [] pos) (fiEnum fa) := by
  intro ρ ds bk ρ' hf
  unfold fiEnum at hf
  obtain ⟨⟨rs, ρ1⟩, e1, hf⟩ := obi hf
  match rs, e1, hf with
  | [.own r], e1, hf =>
    obtain ⟨ds', h1, h2⟩ := omi hf
    cases h2
    refine PI.imp (pi_enum hg hm (ha _ _ _ e1) hs) fun σ H R ⟨G, A, Re, k⟩ => ⟨G, A, Re, fun vs G1 H1 A1 Ss v1 R1 q1 f1 => ?_⟩
    obtain ⟨v, S, rfl, rfl, q2⟩ := q1.one
    obtain ⟨a, ws, rfl, sq, z⟩ := itemsL_of R1.imm q2.1 h1
    exact ⟨a, rfl, ⟨ws, sq⟩, k _ G1 H1 A1 S _ v1 R1 (src_enum h1) q2.1 q2.2 (fun a ha => f1 S (by simp) a ha) trivial⟩
instance [h : KpA P fa] : KpI P (fiEnum fa) := ⟨fun ρ ds bk ρ' hf => by
  unfold fiEnum at hf
  obtain ⟨⟨rs, ρ1⟩, e1, hf⟩ := obi hf
  split at hf
  · obtain ⟨ds', h1, h2⟩ := omi hf
    cases h2
    exact h.kp _ _ _ e1
  · cases hf⟩
def frzL (P : Nat) : List RR → DS → Option (List D × DS)
  | [], ρ => some ([], ρ)
  | .own (.p d) :: rs, ρ => (frzL P rs ρ).map fun q => (d :: q.1, q.2)
  | .own (.L ds) :: rs, ρ => (frzL P rs ρ).map fun q => (.lst ds :: q.1, q.2)
  | .own (.K _) :: _, _ => none
  | .own (.S _ _ _) :: _, _ => none
  | .at i :: rs, ρ => if i < P then none else (slotL ρ i).bind fun ds => (frzL P rs (ρ.set i (some (.p (.lst ds))))).map fun q => (.lst ds :: q.1, q.2)
theorem Rep.frz {G H : Hp} {σ : St} {ρ : DS} {A : Ft} {a : Addr} {vs : List V} (R : Rep K G H σ ρ A) (h : H a = some (.lst vs)) (g : G a = none) (ap : ∀ i, a ∉ A i) : Rep K (upd G a (.lst vs)) H σ ρ A :=
  ⟨fun b o q => by
    by_cases e : b = a
    · subst e; rw [upd_same] at q; cases q; exact h
    · rw [upd_ne e] at q; exact R.imm b o q, R.len, fun i r e => by
    obtain ⟨v, h1, h2⟩ := R.slot i r e
    refine ⟨v, h1, h2.stay (le_upd g) (fun _ _ _ q => q) fun b hb => ?_⟩
    rw [upd_ne (fun e => by subst e; exact ap i hb)]
    exact h2.gfree hb, R.emp, R.disj⟩
theorem Rep.frzSlot {G H : Hp} {σ : St} {ρ : DS} {A : Ft} {i : Nat} {ds : List D} {a : Addr} {vs : List V} (R : Rep K G H σ ρ A) (hi : ρ[i]? = some (some (.L ds))) (hv : σ[i]? = some (some (.ref a))) (h : H a = some (.lst vs)) (z : Pus K G vs ds) :
    A i = [a] ∧ G a = none ∧ Rep K (upd G a (.lst vs)) H σ (ρ.set i (some (.p (.lst ds)))) (fun j => if j = i then [] else A j) := by
  obtain ⟨R2, hr, ap⟩ := R.out hi hv
  obtain ⟨b, us, e1, e2, h1, g, _⟩ := hr
  cases e1
  rw [e2] at ap
  have R3 := R2.frz h g (fun j hj => ap j a (by simp) hj)
  have hl : i < ρ.length := (List.getElem?_eq_some_iff.mp hi).1
  have hn : (ρ.set i none)[i]? = some none := List.getElem?_set_self hl
  have R4 := R3.back (r := .p (.lst ds)) (S := []) hn hv ⟨rfl, .lst (SqL.of upd_same) (z.mono (le_upd g))⟩ (by simp)
  rw [List.set_set] at R4
  refine ⟨e2, g, ?_⟩
  have ea : (fun j => if j = i then [] else (fun j => if j = i then ([] : List Addr) else A j) j) = (fun j => if j = i then [] else A j) := by
    funext j
    by_cases e : j = i
    · simp [e]
    · simp [e]
  rw [ea] at R4
  exact R4
theorem ResOf.frz {G H : Hp} {σ : St} {A A' : Ft} {v : V} {rr : RR} {S : List Addr} {a : Addr} {o : HO} (h : ResOf K G H σ A v rr S) (g : G a = none) (na : a ∉ S) (sub : ∀ i b, b ∈ A' i → b ∈ A i) : ResOf K (upd G a o) H σ A' v rr S := by
  cases rr with
  | own r => exact ⟨h.1.stay (le_upd g) (fun _ _ _ q => q) fun b hb => by rw [upd_ne (fun e => by subst e; exact na hb)]; exact h.1.gfree hb, fun i b hb z => h.2 i b hb (sub i b z)⟩
  | «at» i => exact h
theorem ResL.frz {G H : Hp} {σ : St} {A A' : Ft} {a : Addr} {o : HO} (g : G a = none) (sub : ∀ i b, b ∈ A' i → b ∈ A i) : ∀ {vs : List V} {rs : List RR} {Ss : List (List Addr)}, ResL K G H σ A vs rs Ss → (∀ S ∈ Ss, a ∉ S) → ResL K (upd G a o) H σ A' vs rs Ss
  | [], [], [], _, _ => trivial
  | _ :: _, _ :: _, S :: Ss, ⟨h1, h2, h3⟩, n => ⟨h1.frz g (n S (by simp)) sub, h2, h3.frz g sub fun T hT => n T (by simp [hT])⟩
  | [], [], _ :: _, h, _ => h.elim
  | [], _ :: _, _, h, _ => h.elim
  | _ :: _, [], _, h, _ => h.elim
  | _ :: _, _ :: _, [], h, _ => h.elim
theorem frzL_run {H : Hp} {σ : St} : ∀ {rs : List RR} {vs : List V} {Ss : List (List Addr)} {G : Hp} {ρ ρ' : DS} {A : Ft} {ds : List D}, frzL P rs ρ = some (ds, ρ') → Rep K G H σ ρ A → ResL K G H σ A vs rs Ss →
    ∃ G' A', Rep K G' H σ ρ' A' ∧ Le G G' ∧ (∀ b o, G' b = some o → G b = some o ∨ (∃ i, b ∈ A i) ∨ ∃ S ∈ Ss, b ∈ S) ∧ (∀ i b, b ∈ A' i → b ∈ A i) ∧ Pus K G' vs ds
  | [], [], [], G, ρ, ρ', A, ds, hf, R, _ => by
    cases hf
    exact ⟨G, A, R, Le.refl G, fun _ _ h => .inl h, fun _ _ h => h, .nil⟩
  | .own (.p d) :: rs, v :: vs, S :: Ss, G, ρ, ρ', A, ds, hf, R, ⟨q, _, qs⟩ => by
    obtain ⟨⟨ds', ρ1⟩, e1, e2⟩ := omi hf
    cases e2
    obtain ⟨G', A', R', l, n, s, z⟩ := frzL_run e1 R qs
    refine ⟨G', A', R', l, fun b o h => ?_, s, .cons (q.1.2.mono l) z⟩
    rcases n b o h with h | h | ⟨T, hT, h⟩
    · exact .inl h
    · exact .inr (.inl h)
    · exact .inr (.inr ⟨T, by simp [hT], h⟩)
  | .own (.L l0) :: rs, v :: vs, S :: Ss, G, ρ, ρ', A, ds, hf, R, ⟨q, dj, qs⟩ => by
    obtain ⟨⟨ds', ρ1⟩, e1, e2⟩ := omi hf
    cases e2
    obtain ⟨⟨a, us, rfl, rfl, h1, g, z0⟩, ap⟩ := q
    have R1 := R.frz h1 g (fun i hi => ap i a (by simp) hi)
    obtain ⟨G', A', R', l, n, s, z⟩ := frzL_run e1 R1 (qs.frz g (fun _ _ h => h) fun T hT m => dj T hT a (by simp) m)
    refine ⟨G', A', R', (le_upd g).trans l, fun b o h => ?_, s, .cons (.lst (SqL.of (l _ _ upd_same)) (z0.mono ((le_upd g).trans l))) z⟩
    rcases n b o h with h | h | ⟨T, hT, h⟩
    · by_cases e : b = a
      · subst e; exact .inr (.inr ⟨[b], by simp, by simp⟩)
      · rw [upd_ne e] at h; exact .inl h
    · exact .inr (.inl h)
    · exact .inr (.inr ⟨T, by simp [hT], h⟩)
  | .at i :: rs, v :: vs, S :: Ss, G, ρ, ρ', A, ds, hf, R, ⟨q, dj, qs⟩ => by
    unfold frzL at hf
    split at hf
    · cases hf
    · obtain ⟨l0, e0, hf⟩ := obi hf
      obtain ⟨⟨ds', ρ1⟩, e1, e2⟩ := omi hf
      cases e2
      obtain ⟨_, hv⟩ := q
      obtain ⟨u, hu, a, us, rfl, eA, h1, g, z0⟩ := R.slot i _ (slotL_of e0)
      rw [hv] at hu
      cases hu
      obtain ⟨_, _, R1⟩ := R.frzSlot (slotL_of e0) hv h1 z0
      have na : ∀ T ∈ Ss, a ∉ T := fun T hT m => by
        have key : ∀ {vs : List V} {rs : List RR} {Ss : List (List Addr)}, ResL K G H σ A vs rs Ss → ∀ T ∈ Ss, ∀ b ∈ T, ∀ i, b ∉ A i := by
          intro vs rs Ss
          induction Ss generalizing vs rs with
          | nil => intro _ T hT; simp at hT
          | cons S Ss ih =>
            intro h T hT b hb i
            match vs, rs, h with
            | [], [], h => exact h.elim
            | [], _ :: _, h => exact h.elim
            | _ :: _, [], h => exact h.elim
            | v :: vs, r :: rs, ⟨h1, _, h3⟩ =>
              rcases List.mem_cons.mp hT with rfl | hT
              · exact h1.apart i b hb
              · exact ih h3 T hT b hb i
        exact key qs T hT a m i (by rw [eA]; simp)
      have sub : ∀ (j : Nat) (b : Addr), b ∈ (fun j => if j = i then [] else A j) j → b ∈ A j := fun j b hb => by
        by_cases e : j = i
        · subst e; simp at hb
        · simpa [e] using hb
      obtain ⟨G', A', R', l, n, s, z⟩ := frzL_run e1 R1 (qs.frz g sub na)
      refine ⟨G', A', R', (le_upd g).trans l, fun b o h => ?_, fun j b hb => sub j b (s j b hb), .cons (.lst (SqL.of (l _ _ upd_same)) (z0.mono ((le_upd g).trans l))) z⟩
      rcases n b o h with h | ⟨j, h⟩ | ⟨T, hT, h⟩
      · by_cases e : b = a
        · subst e; exact .inr (.inl ⟨i, by rw [eA]; simp⟩)
        · rw [upd_ne e] at h; exact .inl h
      · exact .inr (.inl ⟨j, sub j b h⟩)
      · exact .inr (.inr ⟨T, by simp [hT], h⟩)
  | .own (.K _) :: _, _, _, _, _, _, _, _, hf, _, _ => by cases hf
  | .own (.S _ _ _) :: _, _, _, _, _, _, _, _, hf, _, _ => by cases hf
  | [], [], _ :: _, _, _, _, _, _, _, _, h => h.elim
  | [], _ :: _, _, _, _, _, _, _, _, _, h => h.elim
  | _ :: _, [], _, _, _, _, _, _, _, _, h => by first | exact h.elim | (cases ‹List (List Addr)› <;> exact h.elim)
  | _ :: _, _ :: _, [], _, _, _, _, _, _, _, h => by first | exact h.elim | exact (h : False).elim
def fTupF (P : Nat) (f : FA) : FE := fun ρ => (f ρ).bind fun p => (frzL P p.1 p.2).bind fun q => if q.1.length ≤ sizeLine then some (.own (.p (.tup q.1)), q.2) else none
theorem de_tupF {x1} (ha : DA X es fa) : DE X (.Tuple es x1 pos) (fTupF P fa) := by
  intro ρ rr ρ' hf
  unfold fTupF at hf
  obtain ⟨⟨rs, ρ1⟩, h1, h⟩ := obi hf
  obtain ⟨⟨ds, ρ2⟩, h2, h⟩ := obi h
  split at h
  · next hz =>
    cases h
    refine PE.imp (pe_tup (ha _ _ _ h1)) fun σ H Q ⟨G, A, R, k⟩ => ⟨G, A, R, fun vs G1 H1 A1 Ss e1 R1 q1 f1 => ?_⟩
    obtain ⟨G2, A2, R2, l2, n2, s2, z⟩ := frzL_run h2 R1 q1
    refine ⟨by rw [z.length]; exact hz, fun p hp => ?_⟩
    have al : Al G2 H1 (upd G2 p (.tup vs)) (upd H1 p (.tup vs)) := Al.frozen R2.imm hp
    have ev : Evo G H A G2 H1 A2 := ⟨e1.le.trans l2, fun b o h => by
      rcases n2 b o h with h | ⟨i, h⟩ | ⟨T, hT, h⟩
      · exact e1.new b o h
      · exact .inr (e1.foot i b h)
      · exact .inr (f1 T hT b h), e1.keep, fun i b h => e1.foot i b (s2 i b h)⟩
    exact k _ _ _ A2 [] (ev.trans al.evo) (al.rep R2) ⟨new_T R2.imm hp z, by simp⟩ (by simp)
  · cases h
theorem frzL_kp : ∀ {rs : List RR} {ρ ρ' : DS} {ds : List D}, frzL P rs ρ = some (ds, ρ') → Kp P ρ ρ'
  | [], ρ, ρ', ds, hf => by cases hf; exact Kp.refl _
  | .own (.p d) :: rs, ρ, ρ', ds, hf => by
    obtain ⟨⟨ds', ρ1⟩, e1, e2⟩ := omi hf
    cases e2
    exact frzL_kp e1
  | .own (.L l0) :: rs, ρ, ρ', ds, hf => by
    obtain ⟨⟨ds', ρ1⟩, e1, e2⟩ := omi hf
    cases e2
    exact frzL_kp e1
  | .at i :: rs, ρ, ρ', ds, hf => by
    unfold frzL at hf
    split at hf
    · cases hf
    · next hi =>
      obtain ⟨l0, e0, hf⟩ := obi hf
      obtain ⟨⟨ds', ρ1⟩, e1, e2⟩ := omi hf
      cases e2
      have h0 := slotL_of e0
      have hl : i < ρ.length := (List.getElem?_eq_some_iff.mp h0).1
      refine Kp.trans ⟨by rw [List.length_set], fun j => ⟨fun r hr => ?_, fun hr => ?_⟩⟩ (frzL_kp e1)
      · by_cases e : i = j
        · subst e; exact ⟨_, List.getElem?_set_self hl, fun z => absurd z hi⟩
        · exact ⟨r, by rw [List.getElem?_set_ne e]; exact hr, fun _ => rfl⟩
      · by_cases e : i = j
        · subst e; rw [h0] at hr; cases hr
        · rw [List.getElem?_set_ne e]; exact hr
  | .own (.K _) :: _, _, _, _, hf => by cases hf
  | .own (.S _ _ _) :: _, _, _, _, hf => by cases hf
instance [ha : KpA P fa] : KpE P (fTupF P fa) := ⟨fun ρ k ρ' h => by
  unfold fTupF at h
  obtain ⟨⟨rs, ρ1⟩, h1, h⟩ := obi h
  obtain ⟨⟨ds, ρ2⟩, h2, h⟩ := obi h
  split at h
  · cases h; exact (ha.kp _ _ _ h1).trans (frzL_kp h2)
  · cases h⟩
end
end L2.CF
namespace L2.CF
open PySem PySem.Spec PyProof.Rows
structure Ce (K : PySem.W.Frag) (mg : Str → Option Value) (x : Str) (st : Stmt) (f : Addr) (fd : FuncData) (ps : List Str) : Prop where
  fn : Fun K x x st f fd
  mg : mg x = some (.ref f)
  bd : Binds K fd ps []
theorem fn_none {Pg : Program} {w : World} {K : PySem.W.Frag} {mg : Str → Option Value} {base : Heap} {k : Nat} {f : Addr} {fd : FuncData} {ps : List Str} : FnD Pg w K mg base k f fd ps (fun _ => none) :=
  ⟨fun vs H Q E h => h.1, fun A outer s H args us vs Q E _ _ _ _ h => by
    obtain ⟨_, G, xs, Ss, r, ys, h, _⟩ := h
    cases h⟩
theorem pus_ints {K : PySem.W.Frag} {G : Hp} : ∀ ns : List Int, Pus K G (ns.map V.int) (ns.map D.int)
  | [] => .nil
  | _ :: ns => .cons .int (pus_ints ns)
theorem walkD {l : PySem.W.OpenLaw} {k : Nat} {q : Program} {loose : List Str} {XP : (Str → Option Value) → Heap → Prop} {YP : World → Heap → Prop} {d : DefRec} {K : Params → PySem.W.Frag} {F : FF} (hn : l.most = some 63) (hk : Room k callerA) (hdf : d.params.defaults = [])
    (hY : ∀ (w : World) (h : Heap), YP w h → (K w.params).In h)
    (Fh : ∀ (w : World) (mg : Str → Option Value) (fa : Addr) (h : Heap), (K w.params).In h → h.Ns mainGlobals mg → mg d.name = some (.ref fa) →
      ∃ fd : FuncData, (∀ (s : Shared) (u : Value), BindsTo s fd ⟨[u], []⟩ [("script", u)]) ∧ ∀ base : Heap, (K w.params).In base → base.Ns mainGlobals mg → FnD l.prog w (K w.params) mg base k fa fd ["script"] F)
    (hF : ∀ ns : List Int, ns.length ≤ 63 → ∃ ys, F [.p (.lst (ns.map D.int))] = some (.p (.bl true), ys)) :
    PySem.W.WalkO q loose XP YP l.row.toRowW d [] (fun f vs => PySem.call f vs) := by
  refine L2.walk_of (n := 63) (k := k) (x := "script") (CX := fun _ => CX0) (sp := fun w => fun vs H Q E => vs.length = 1 ∧ spD (K w.params) F vs H Q E) hn (by decide) hdf hk hY Fh (fun w H a ns hl _ hS => ⟨rfl, ?_⟩) fun _ _ _ _ _ z => z
  · obtain ⟨ys, hy⟩ := hF ns hl
    refine ⟨H, _, [[]], _, ys, hy, Le.refl H, ⟨⟨rfl, .lst hS (pus_ints ns)⟩, by simp, trivial⟩, fun v G' H' S _ _ _ _ _ hr _ _ => ?_⟩
    obtain ⟨_, hv⟩ := hr
    cases hv
    rfl
end L2.CF
namespace L2.CF
open PySem
theorem bt_len : bootBuiltins "len" = some (.builtin "len") := by decide +kernel
theorem bt_min : bootBuiltins "min" = some (.builtin "min") := by decide +kernel
theorem bt_list : bootBuiltins "list" = some (.type "list") := by decide +kernel
theorem bt_int : bootBuiltins "int" = some (.type "int") := by decide +kernel
theorem bt_tuple : bootBuiltins "tuple" = some (.type "tuple") := by decide +kernel
end L2.CF
namespace L2.CF
open PySem PySem.Spec PyProof.Rows
def Imp (X : Cx) (pins : List (Addr × Obj)) (H : Hp) (b : Addr) : Prop :=
  (∃ o, X.s₀.heap.get? b = some o) ∨ b = X.env.locals ∨ (∃ p ∈ X.pn ++ pins, p.1 = b) ∨ (∃ x, X.env.cells.lookup x = some b) ∨ ∃ o, H b = some o
section
variable {X : Cx} {pins : List (Addr × Obj)} {σ : St} {H : Hp} {s : Shared} {h' : Heap}
theorem _root_.L2.Inv.fsSub (I : Inv X pins σ H s) : ∀ b ∈ X.fs, b ∈ frs X.stack := fun b hb => by
  rcases I.ok.stk with e | ⟨e, hf⟩
  · rw [e]; exact hb
  · rw [e]; unfold frs; rw [List.filterMap_cons, hf]; exact List.mem_cons_of_mem _ hb
end
theorem objok_there {P : Program} {w : World} {H : Hp} {h : Heap} {a : Addr} {o : HO} (x : ObjOk P w H h a o) : ∃ ob, h.get? a = some ob := by
  cases o with
  | lst xs => obtain ⟨_, _, _, _, e⟩ := x; exact ⟨_, e⟩
  | tup xs => obtain ⟨_, _, _, ob, e, _⟩ := x; exact ⟨_, e⟩
  | dK kvs => obtain ⟨_, _, _, _, o, _, _, e, _⟩ := x; exact ⟨_, e⟩
  | dT kvs => obtain ⟨_, _, _, _, o, _, _, e, _⟩ := x; exact ⟨_, e⟩
  | set S n => obtain ⟨o, _, _, _, e, _⟩ := x; exact ⟨_, e⟩
  | ins C dx fs => obtain ⟨_, _, _, e, _⟩ := x; exact ⟨_, e⟩
  | own y => exact x
  | xd fs => obtain ⟨_, ⟨_, _, _, e, _⟩, _⟩ := x; exact ⟨_, e⟩
  | rng lo hi => obtain ⟨_, _, _, e⟩ := x; exact ⟨_, e⟩
  | frz ob u => obtain ⟨e, _⟩ := x; exact ⟨_, e⟩
  | tbl ps => exact ⟨_, x⟩
  | met f y => exact ⟨_, x⟩
  | ext φ => obtain ⟨_, z, _⟩ := x; exact z
def Full (imp : Addr → Prop) (l : List Env) (B h : Heap) : Prop := ∀ b o, h.get? b = some o → b ∉ frs l → imp b → B.get? b = some o
def Fly (imp : Addr → Prop) (l : List Env) (c : Value) (ea : Addr) (h : Heap) : Prop := ∃ B, Full imp l B h ∧
  ((∃ h0 args, B.StaysIn h0 ∧ h0.FunFrames B l ∧ Heap.MadeExcOf h0 h ea c args) ∨ (∃ a0, Heap.FlyingW B l ea c a0 h) ∨ ∃ a0 L env l', l = env :: l' ∧ env.frame = some L ∧ Heap.HeldW B l ea c a0 L h)
theorem fun_base {h b1 b2 : Heap} : ∀ {l : List Env}, h.FunFrames b1 l → (∀ a ∈ frs l, b2.get? a = none) → h.FunFrames b2 l
  | [], _, _ => trivial
  | env :: l, ⟨hk, ⟨L, o, hf, _, ho, hd⟩, hr⟩, n => by
    have hL : L ∈ frs (env :: l) := by unfold frs; rw [List.filterMap_cons, hf]; exact List.mem_cons_self
    refine ⟨hk, ⟨L, o, hf, n L hL, ho, hd⟩, fun_base hr fun a ha => n a ?_⟩
    unfold frs at ha ⊢
    rw [List.filterMap_cons, hf]
    exact List.mem_cons_of_mem _ ha
section
variable {M : Model} {A : Around} {E : Value → Shared → Prop} {s : Shared} {imp : Addr → Prop} {env : Env} {outer : List Env} {c : Value} {ea L : Addr}
theorem Fly.leave {Q : Unit → Shared → Prop} (hfr : A.frames = some (env :: outer)) (hf : env.frame = some L) (F : Fly imp (env :: outer) c ea s.heap)
    (hQ : ∀ B h' a0, Full imp (env :: outer) B s.heap → Heap.FlyingW B outer ea c a0 h' → s.heap.UpToSlots h' → Q () { s with heap := h' }) : wpAny M A (leaving env (.ref ea)) Q E s := by
  obtain ⟨B, fu, ⟨h0, args, st, ff, mk⟩ | ⟨a0, fl⟩ | ⟨a0, L', env', l', e, hf', hh⟩⟩ := F
  · exact wpAny_leaves_madeW hfr hf st ff mk fun h' t x1 _ _ x4 => hQ B h' _ fu x1 x4
  · exact wpAny_leaves_onW hfr hf fl fun h' x1 x4 => hQ B h' a0 fu x1 x4
  · obtain ⟨e1, e2⟩ := List.cons.inj e
    subst e1 e2
    rw [hf] at hf'
    cases hf'
    unfold leaving
    refine wpAny_bind (wpAny_noteFrame_againW hf hh.2.2.2 ?_)
    refine wpAny_landsW hh fun h' fl sl => ?_
    obtain ⟨k1, k2, ⟨_, _, k3⟩, k4⟩ := fl
    exact hQ B h' a0 fu ⟨k1, k2, k3, k4⟩ sl
theorem Fly.there {h : Heap} {l : List Env} (F : Fly imp l c ea h) : ∃ oe vs, h.get? ea = some oe ∧ oe.cls = c ∧ oe.data = .fields vs := by
  obtain ⟨B, _, ⟨h0, args, _, _, mk⟩ | ⟨a0, fl⟩ | ⟨a0, L', env', l', e, hf', hh⟩⟩ := F
  · obtain ⟨t, he, _⟩ := mk.there
    exact ⟨_, _, he, rfl, rfl⟩
  · obtain ⟨_, _, _, oe, vs, _, _, _, he, hc, hd, _⟩ := fl
    exact ⟨oe, vs, he, hc.1, hd⟩
  · obtain ⟨_, _, _, oe, vs, _, _, _, he, hc, hd, _⟩ := hh
    exact ⟨oe, vs, he, hc.1, hd⟩
end
def Up (X : Cx) (pins : List (Addr × Obj)) (σ : St) (H : Hp) (c e : Value) (s : Shared) : Prop := Inv X pins σ H s ∧ ∃ ea, e = .ref ea ∧ Fly (Imp X pins H) X.stack c ea s.heap
def CX1 (P : Program) (w : World) : CXT := fun outer H s E e s' => ∃ ea c H', e = .ref ea ∧ s'.os = s.os ∧ AllBare s'.gens ∧ Un (frs outer) [] H H' s.heap s'.heap ∧ HOk P w H' s'.heap ∧
  (∃ B a0, Heap.FlyingW B outer ea c a0 s'.heap ∧ Full (fun b => (∃ o, s.heap.get? b = some o) ∨ ∃ o, H' b = some o) outer B s'.heap) ∧ E c none H'
section
variable {X : Cx} {pins : List (Addr × Obj)} {σ : St} {H : Hp} {s s' : Shared} {E : XK} {e : Value}
theorem Up.out {P : Program} {w : World} {K : PySem.W.Frag} {mg : Str → Option Value} {base : Heap} {N : List Str} {qual : Str} {scope : Scope} {f : Addr} {cd : Value} {A : Around} {outer : List Env} {s0 : Shared} {H0 H' : Hp} {c : Value} {E : XK}
    (U : Up (cxOf (CX1 P w) P w K mg base N qual scope f cd A outer s0 H0 E) pins σ H' c e s) (hE : E c none H') : (cxOf (CX1 P w) P w K mg base N qual scope f cd A outer s0 H0 E).xe e s := by
  obtain ⟨I, ea, rfl, F⟩ := U
  show wpAny (model P w) (A.deeper (envOfC qual scope s0.heap.objs.size f cd)) (leaving (envOfC qual scope s0.heap.objs.size f cd) (.ref ea)) _ _ s
  refine Fly.leave (I.ok.frames) rfl F fun B h' a0 fu fl us => ?_
  have st : ∀ b, b ∈ frs outer → b ∈ frs (envOfC qual scope s0.heap.objs.size f cd :: outer) := fun b hb => I.fsSub b hb
  have nst : ∀ {b : Addr} {o : Obj}, s0.heap.get? b = some o → b ∉ frs outer → b ∉ frs (envOfC qual scope s0.heap.objs.size f cd :: outer) := fun {b o} q n z => by
    rcases List.mem_cons.mp (I.stkSub b z) with e | z
    · exact absurd (Heap.lt_size q) (by rw [e]; exact Nat.not_lt.mpr I.ok.above)
    · exact n z
  have noex : ∀ b : Addr, b ∉ (cxOf (CX1 P w) P w K mg base N qual scope f cd A outer s0 H0 E).ex := fun b z => absurd (show b ∈ ([] : List Addr) from z) (by simp)
  have keepB : ∀ b o, s.heap.get? b = some o → b ∉ frs (envOfC qual scope s0.heap.objs.size f cd :: outer) → ((∃ o, s0.heap.get? b = some o) ∨ ∃ o, H' b = some o) → B.get? b = some o := fun b o q n i => fu b o q n (i.elim .inl fun z => .inr (.inr (.inr (.inr z))))
  have slotF : ∀ b o, s.heap.get? b = some o → b ∈ frs (envOfC qual scope s0.heap.objs.size f cd :: outer) → ∃ sl, h'.get? b = some { o with slots := sl } := fun b o q z => by
    obtain ⟨_, o', ho', hd⟩ := I.stack.mem z
    rw [q] at ho'; cases ho'
    exact us b o q hd
  have nH : ∀ {b : Addr} {o : HO}, H' b = some o → b ∉ frs (envOfC qual scope s0.heap.objs.size f cd :: outer) := fun {b o} q z => by
    rw [I.stkFree b z] at q; cases q
  refine ⟨ea, c, H', rfl, I.os, I.bare, ⟨fun b o q n hb _ => ?_, fun b o q n hb _ => ?_, fun b o q n _ => I.base.free b o q n (noex b), fun b o q _ => ?_, I.base.tups, I.base.frzs, I.base.tbls⟩, fun a o q => ?_, ⟨B, a0, fl, fun b o q n i => ?_⟩, hE⟩
  · have z := I.base.keep b o q n hb (noex b)
    exact fl.1 b o (keepB b o z (nst q hb) (.inl ⟨o, q⟩))
  · obtain ⟨sl, z⟩ := I.base.slot b o q n hb (noex b)
    obtain ⟨sl', z'⟩ := slotF b _ z (st b hb)
    exact ⟨sl', z'⟩
  · obtain ⟨o', z⟩ := I.base.there b o q (noex b)
    by_cases hb : b ∈ frs (envOfC qual scope s0.heap.objs.size f cd :: outer)
    · obtain ⟨sl, z'⟩ := slotF b o' z hb
      exact ⟨_, z'⟩
    · exact ⟨o', fl.1 b o' (keepB b o' z hb (.inl ⟨o, q⟩))⟩
  · refine (I.hok a o q).stay (fun b u hb r => ?_) (fun _ z => z) fun _ _ z => z
    have hH : ∃ o, H' b = some o := by
      rcases hb with rfl | hb
      · exact ⟨_, q⟩
      · exact ⟨_, hb⟩
    obtain ⟨o', hH⟩ := hH
    exact fl.1 b u (keepB b u r (nH hH) (.inr ⟨o', hH⟩))
  · rcases i with ⟨o0, i⟩ | ⟨o0, i⟩
    · obtain ⟨o', z⟩ := I.base.there b o0 i (noex b)
      have zB := keepB b o' z (nst i n) (.inl ⟨o0, i⟩)
      have z2 := fl.1 b o' zB
      have q : h'.get? b = some o := q
      rw [z2] at q; cases q
      exact zB
    · have hl : ∃ o', s.heap.get? b = some o' := by
        have z := (I.hok b o0 i).lt
        exact objok_there (I.hok b o0 i)
      obtain ⟨o', z⟩ := hl
      have zB := keepB b o' z (nH i) (.inr ⟨o0, i⟩)
      have z2 := fl.1 b o' zB
      have q : h'.get? b = some o := q
      rw [z2] at q; cases q
      exact zB
end
end L2.CF
namespace L2.CF
open PySem PySem.Spec PyProof.Rows
inductive XR (α : Type) where
  | ok (a : α)
  | ex (c : Str)
abbrev FEX := DS → Option (XR RR × DS)
abbrev FFX := List RV → Option (XR RV × List RV)
section
variable {X : Cx} {P : Nat} {st : Stmt} {rest : List Stmt} {f g : FSX} {e c : Expr} {fe : FEX} {pos : Pos}
class KpX (P : Nat) (f : FEX) : Prop where
  kp : ∀ ρ rr ρ', f ρ = some (rr, ρ') → Kp P ρ ρ'
end
section
variable {Pg : Program} {w : World} {K : PySem.W.Frag} {mg : Str → Option Value} {base : Heap}
end
end L2.CF
namespace L2.CF
open PySem PySem.Spec PyProof.Rows
class KpFX (F : FFX) : Prop where kp : ∀ xs r ys, F xs = some (r, ys) → ys.length = xs.length ∧ ∀ (i : Nat) x y, xs[i]? = some x → ys[i]? = some y → ownd y = ownd x
section
variable {X : Cx} {k : Nat} {f : Addr} {fd : FuncData} {ps : List Str} {F : FFX} {x : Str} {p pos : Pos} {e : Expr} {es : List Expr} {fa : FA}
end
end L2.CF
namespace L2.CF
open PySem PySem.Spec PyProof.Rows
abbrev vErr : List Value := [.type "ValueError", .type "Exception", .type "BaseException", .type "object"]
structure ECls (K : PySem.W.Frag) (mg : Str → Option Value) (x : Str) (C : Addr) : Prop where
  g : mg x = some (.ref C)
  q : PySem.W.excIn K C vErr "ValueError.__new__" = true
theorem Imp.there {X : Cx} {pins : List (Addr × Obj)} {σ : St} {H : Hp} {s : Shared} {b : Addr} (I : Inv X pins σ H s) (hex : X.ex = []) (h : Imp X pins H b) : ∃ o, s.heap.get? b = some o := by
  rcases h with ⟨o', z⟩ | z | ⟨p, hp, z⟩ | ⟨x, z⟩ | ⟨o', z⟩
  · exact I.base.there b o' z (by rw [hex]; simp)
  · subst z
    obtain ⟨m, ⟨o2, _, _, ho, _⟩, _⟩ := I.loc
    exact ⟨o2, ho⟩
  · subst z
    exact ⟨_, (I.pin p hp).1⟩
  · obtain ⟨v, o2, ho, _⟩ := I.cell x b z
    exact ⟨o2, ho⟩
  · exact objok_there (I.hok b o' z)
theorem Up.made {X : Cx} {pins : List (Addr × Obj)} {σ : St} {H : Hp} {s : Shared} {h' : Heap} {ea : Addr} {c : Value} {args : List Value} (I : Inv X pins σ H s) (hex : X.ex = []) (mk : Heap.MadeExcOf s.heap h' ea c args) : Up X pins σ H c (.ref ea) { s with heap := h' } := by
  refine ⟨I.kept (t' := s.toks) mk.keeps, ea, rfl, PySem.W.hideAll s.heap (frs X.stack), fun b o q n i => ?_, .inl ⟨s.heap, args, fun b o q => PySem.W.of_hideAll _ q, fun_base I.stack fun a ha => PySem.W.hideAll_none _ ha, mk⟩⟩
  obtain ⟨o', z⟩ := i.there I hex
  have z' := mk.keeps b o' z
  have q : h'.get? b = some o := q
  rw [z'] at q
  cases q
  exact PySem.W.hideAll_get _ z n
section
variable {X : Cx} {P : Nat} {x : Str} {C : Addr} {np cpos pos : Pos} {e : Expr} {es : List Expr} {fa : FA}
end
end L2.CF
namespace L2.CF
open PySem PySem.Spec PyProof.Rows
section
variable {M : Model} {A : Around} {E : Value → Shared → Prop} {h : Heap} {g : Array GenState} {d : Drawn} {t : Nat} {os : OsState}
variable {nm q nm' q' : Str} {C N D N' : Addr} {bs bm bs' bm' : List Value} {hdct hdct' : Bool} {sn sn' : List Str} {sub sub' : List Value} {ab ab' : Bool} {col col' : Option Bool} {dd dd' : Option Addr} {k0 k1 k2 k3 k5 j0 j1 j2 j3 j5 : Option Value} {newId newId' : String}
end
def subIn (K : PySem.W.Frag) (C D : Addr) : Bool := match K.lookup C with
  | some ⟨_, _, .cls cd, _⟩ => cd.mro.contains (.ref D)
  | _ => false
structure Catches (K : PySem.W.Frag) (mg : Str → Option Value) (c x : Str) : Prop where
  ex : ∃ C D, ECls K mg c C ∧ ECls K mg x D ∧ subIn K C D = true
theorem Catches.self {K : PySem.W.Frag} {mg : Str → Option Value} {c : Str} {C : Addr} (h : ECls K mg c C) : Catches K mg c c := by
  refine ⟨C, C, h, h, ?_⟩
  have q := h.q
  unfold PySem.W.excIn at q
  unfold subIn
  split at q
  · rename_i dd cd sl ho
    split at q
    · rename_i C' bm k0 k1 k2 k3 n k5 hm hs
      rw [ho]
      simp only [Bool.and_eq_true, beq_iff_eq, Bool.not_eq_true'] at q
      obtain ⟨⟨⟨⟨⟨e1, e2⟩, e3⟩, e4⟩, e5⟩, e6⟩ := q
      subst e1
      simp [hm]
    · cases q
  · cases q
section
variable {X : Cx} {pins : List (Addr × Obj)} {σ : St} {H : Hp} {s : Shared} {ev : Value}
end
section
variable {X : Cx} {P : Nat} {x : Str} {np hpos pos : Pos} {body suite : List Stmt} {b0 : Stmt} {fb : FSX} {fs : FS} {mt : Str → Bool}
end
end L2.CF
namespace L2.CF
open PySem PySem.Spec PyProof.Rows
variable {K : PySem.W.Frag}
def frzV : RV → D
  | .p d => d
  | .L l => .lst l
  | .K k => .dct k
  | .S l _ _ => .lst l
theorem RepV.frz {G H : Hp} {v : V} {r : RV} {S : List Addr} (l : Le G H) (h : RepV K G H v r S) : ∃ G', Le G G' ∧ Le G' H ∧ (∀ b o, G' b = some o → G b = some o ∨ b ∈ S) ∧ Pu K G' v (frzV r) := by
  have up : ∀ {a : Addr} {o : HO}, H a = some o → G a = none → Le G (upd G a o) ∧ Le (upd G a o) H ∧ (∀ b o', upd G a o b = some o' → G b = some o' ∨ b ∈ [a]) := fun {a o} h g => by
    refine ⟨le_upd g, fun b u q => ?_, fun b u q => ?_⟩
    · by_cases e : b = a
      · subst e; rw [upd_same] at q; cases q; exact h
      · rw [upd_ne e] at q; exact l b u q
    · by_cases e : b = a
      · subst e; exact .inr (by simp)
      · rw [upd_ne e] at q; exact .inl q
  cases r with
  | p d => exact ⟨G, Le.refl G, l, fun _ _ q => .inl q, h.2⟩
  | L ds =>
    obtain ⟨a, vs, rfl, rfl, h1, g, z⟩ := h
    obtain ⟨u1, u2, u3⟩ := up h1 g
    exact ⟨_, u1, u2, u3, .lst (SqL.of upd_same) (z.mono u1)⟩
  | K ds =>
    obtain ⟨a, vs, rfl, rfl, h1, g, z⟩ := h
    obtain ⟨u1, u2, u3⟩ := up h1 g
    exact ⟨_, u1, u2, u3, .dct upd_same (z.mono u1)⟩
  | S ds c ms =>
    obtain ⟨a, vs, ws, rfl, rfl, h1, g, z, _⟩ := h
    obtain ⟨u1, u2, u3⟩ := up h1 g
    exact ⟨_, u1, u2, fun b o q => (u3 b o q).imp_right fun m => by simp at m; simp [m], .lst (SqL.of upd_same) (z.mono u1)⟩
theorem Rep.frzG {G G' H : Hp} {σ : St} {ρ : DS} {A : Ft} {S : List Addr} (R : Rep K G H σ ρ A) (l1 : Le G G') (l2 : Le G' H) (n : ∀ b o, G' b = some o → G b = some o ∨ b ∈ S) (ap : ∀ i, ∀ a ∈ S, a ∉ A i) : Rep K G' H σ ρ A :=
  ⟨l2, R.len, fun i r e => by
    obtain ⟨v, h1, h2⟩ := R.slot i r e
    refine ⟨v, h1, h2.stay l1 (fun _ _ _ q => q) fun b hb => ?_⟩
    cases q : G' b with
    | none => rfl
    | some o =>
      rcases n b o q with z | z
      · rw [h2.gfree hb] at z; cases z
      · exact absurd hb (ap i b z), R.emp, R.disj⟩
def icy (P : Nat) (i : Nat) (ρ : DS) : DS := if i < P then ρ else match ρ[i]? with
  | some (some r) => ρ.set i (some (.p (frzV r)))
  | _ => ρ
theorem Rep.frzAt {P : Nat} {G H : Hp} {σ : St} {ρ : DS} {A : Ft} (i : Nat) (R : Rep K G H σ ρ A) : ∃ G' A', Evo G H A G' H A' ∧ Rep K G' H σ (icy P i ρ) A' := by
  unfold icy
  split
  · exact ⟨G, A, Evo.refl _ _ _, R⟩
  · split
    · next r hr =>
      obtain ⟨v, hv, hrv⟩ := R.slot i r hr
      obtain ⟨R2, hr2, ap⟩ := R.out hr hv
      obtain ⟨G', l1, l2, n, pu⟩ := hr2.frz R.imm
      have R3 := R2.frzG l1 l2 n ap
      have hl : i < ρ.length := (List.getElem?_eq_some_iff.mp hr).1
      have hn : (ρ.set i none)[i]? = some none := List.getElem?_set_self hl
      have R4 := R3.back (r := .p (frzV r)) (S := []) hn hv ⟨rfl, pu⟩ (by simp)
      rw [List.set_set] at R4
      refine ⟨G', _, ⟨l1, fun b o h => ?_, fun _ _ h _ => h, fun j b hb => ?_⟩, R4⟩
      · rcases n b o h with z | z
        · exact .inl z
        · exact .inr (.inr ⟨i, z⟩)
      · by_cases e : j = i
        · subst e; simp at hb
        · simp [e] at hb; exact .inr ⟨j, hb⟩
    · exact ⟨G, A, Evo.refl _ _ _, R⟩
theorem frz_kp {P i : Nat} {ρ : DS} : Kp P ρ (icy P i ρ) := by
  unfold icy
  split
  · exact Kp.refl _
  · next hi =>
    split
    · next r hr =>
      have hl : i < ρ.length := (List.getElem?_eq_some_iff.mp hr).1
      refine ⟨by rw [List.length_set], fun j => ⟨fun q hq => ?_, fun hq => ?_⟩⟩
      · by_cases e : i = j
        · subst e; exact ⟨_, List.getElem?_set_self hl, fun z => absurd z hi⟩
        · exact ⟨q, by rw [List.getElem?_set_ne e]; exact hq, fun _ => rfl⟩
      · by_cases e : i = j
        · subst e; rw [hr] at hq; cases hq
        · rw [List.getElem?_set_ne e]; exact hq
    · exact Kp.refl _
section
variable {X : Cx} {P i : Nat} {e : Expr} {es : List Expr} {fe : FE} {fa : FA} {pos : Pos}
def frzE (P i : Nat) (f : FE) : FE := fun ρ => f (icy P i ρ)
theorem de_frz (P i : Nat) (h : DE X e fe) : DE X e (frzE P i fe) := fun ρ rr ρ' hf => PE.imp (h _ _ _ hf) fun σ H Q ⟨G, A, R, k⟩ => by
  obtain ⟨G1, A1, ev, R1⟩ := R.frzAt (P := P) i
  refine ⟨G1, A1, R1, fun v G' H' A' S e' R' q f => k v G' H' A' S (ev.trans e') R' q fun a ha => ?_⟩
  rcases f a ha with z | ⟨j, z⟩
  · exact .inl z
  · exact ev.foot j a z
instance [h : KpE P fe] : KpE P (frzE P i fe) := ⟨fun ρ rr ρ' hf => frz_kp.trans (h.kp _ _ _ hf)⟩
def frzO : List RR → Option (List D)
  | [] => some []
  | .own r :: rs => (frzO rs).map (frzV r :: ·)
  | .at _ :: _ => none
theorem frzO_run {H : Hp} {σ : St} : ∀ {rs : List RR} {vs : List V} {Ss : List (List Addr)} {G : Hp} {ρ : DS} {A : Ft} {ds : List D}, frzO rs = some ds → Rep K G H σ ρ A → ResL K G H σ A vs rs Ss →
    ∃ G', Rep K G' H σ ρ A ∧ Le G G' ∧ (∀ b o, G' b = some o → G b = some o ∨ ∃ S ∈ Ss, b ∈ S) ∧ Pus K G' vs ds
  | [], [], [], G, ρ, A, ds, hf, R, _ => by
    cases hf
    exact ⟨G, R, Le.refl G, fun _ _ h => .inl h, .nil⟩
  | .own r :: rs, v :: vs, S :: Ss, G, ρ, A, ds, hf, R, ⟨q, dj, qs⟩ => by
    obtain ⟨ds', e1, e2⟩ := omi hf
    cases e2
    obtain ⟨G1, l1, l2, n, pu⟩ := q.1.frz R.imm
    have R1 := R.frzG l1 l2 n q.2
    have keep : ∀ {vs : List V} {rs : List RR} {Ss : List (List Addr)}, ResL K G H σ A vs rs Ss → (∀ T ∈ Ss, ∀ a ∈ S, a ∉ T) → ResL K G1 H σ A vs rs Ss := by
      intro vs rs Ss
      induction Ss generalizing vs rs with
      | nil => intro h _; match vs, rs, h with
        | [], [], _ => trivial
        | [], _ :: _, h => exact h.elim
        | _ :: _, [], h => exact h.elim
        | _ :: _, _ :: _, h => exact h.elim
      | cons T Ss ih =>
        intro h dj
        match vs, rs, h with
        | [], [], h => exact h.elim
        | [], _ :: _, h => exact h.elim
        | _ :: _, [], h => exact h.elim
        | w :: vs, .at j :: rs, ⟨h1, h2, h3⟩ => exact ⟨h1, h2, ih h3 fun T' hT' => dj T' (by simp [hT'])⟩
        | w :: vs, .own r :: rs, ⟨h1, h2, h3⟩ =>
          refine ⟨⟨h1.1.stay l1 (fun _ _ _ q => q) fun b hb => ?_, h1.2⟩, h2, ih h3 fun T' hT' => dj T' (by simp [hT'])⟩
          cases z : G1 b with
          | none => rfl
          | some o =>
            rcases n b o z with y | y
            · rw [h1.1.gfree hb] at y; cases y
            · exact absurd hb (dj T (by simp) b y)
    obtain ⟨G', R', l, n', z⟩ := frzO_run e1 R1 (keep qs dj)
    refine ⟨G', R', l1.trans l, fun b o h => ?_, .cons (pu.mono l) z⟩
    rcases n' b o h with h | ⟨T, hT, h⟩
    · rcases n b o h with h | h
      · exact .inl h
      · exact .inr ⟨S, by simp, h⟩
    · exact .inr ⟨T, by simp [hT], h⟩
  | .at _ :: _, _, _, _, _, _, _, hf, _, _ => by cases hf
  | [], [], _ :: _, _, _, _, _, _, _, h => h.elim
  | [], _ :: _, _, _, _, _, _, _, _, h => h.elim
  | .own _ :: _, [], _, _, _, _, _, _, _, h => by first | exact h.elim | (cases ‹List (List Addr)› <;> exact h.elim)
  | .own _ :: _, _ :: _, [], _, _, _, _, _, _, h => by first | exact h.elim | exact (h : False).elim
def fLstO (f : FA) : FE := fun ρ => (f ρ).bind fun p => (frzO p.1).bind fun ds => if ds.length ≤ sizeLine then some (.own (.L ds), p.2) else none
theorem fLstO_inv {ρ ρ' : DS} {rr : RR} (h : fLstO fa ρ = some (rr, ρ')) : ∃ rs ds, fa ρ = some (rs, ρ') ∧ frzO rs = some ds ∧ ds.length ≤ sizeLine ∧ rr = .own (.L ds) := by
  unfold fLstO at h
  obtain ⟨⟨rs, ρ1⟩, h1, h⟩ := obi h
  obtain ⟨ds, h2, h⟩ := obi h
  split at h
  · next hz => cases h; exact ⟨rs, ds, h1, h2, hz, rfl⟩
  · cases h
theorem de_lstO (ha : DA X es fa) : DE X (.List es pos) (fLstO fa) := by
  intro ρ rr ρ' hf
  obtain ⟨rs, ds, h1, h2, hz, rfl⟩ := fLstO_inv hf
  refine PE.imp (pe_lst (ha _ _ _ h1)) fun σ H Q ⟨G, A, R, k⟩ => ⟨G, A, R, fun vs G1 H1 A1 Ss e1 R1 q1 f1 => ?_⟩
  obtain ⟨G2, R2, l2, n2, z⟩ := frzO_run h2 R1 q1
  refine ⟨by rw [z.length]; exact hz, fun p hp => ?_⟩
  have al : Al G2 H1 G2 (upd H1 p (.lst vs)) := Al.own R2.imm hp
  have fr : ∀ a ∈ [p], H1 a = none := by simpa using hp
  have ev : Evo G H A G2 H1 A1 := ⟨e1.le.trans l2, fun b o h => by
    rcases n2 b o h with h | ⟨T, hT, h⟩
    · exact e1.new b o h
    · exact .inr (f1 T hT b h), e1.keep, e1.foot⟩
  exact k _ _ _ A1 [p] (ev.trans al.evo) (al.rep R2) ⟨new_L R2.imm hp z, evo_apart (G := G2) (H := H1) (A := A1) R2 fr⟩ fun a ha => e1.back (fr a ha)
instance [ha : KpA P fa] : KpE P (fLstO fa) := ⟨fun ρ k ρ' h => by
  obtain ⟨rs, ds, h1, _⟩ := fLstO_inv h
  exact ha.kp _ _ _ h1⟩
end
end L2.CF
namespace L2.CF
open PySem PySem.Spec PyProof.Rows
variable {K : PySem.W.Frag}
def keyD : D → Option Key
  | .int i => some (.inl i)
  | .str x => some (.inr x)
  | _ => none
def keyR : RV → Option Key
  | .p d => keyD d
  | _ => none
theorem keyR_of {G H : Hp} {v : V} {r : RV} {S : List Addr} {k : Key} (h : RepV K G H v r S) (e : keyR r = some k) : v = kV k := by
  cases r with
  | p d =>
    obtain ⟨_, h⟩ := h
    cases h <;> cases e <;> rfl
  | L ds => cases e
  | K ds => cases e
  | S ds b ms => cases e
def valK (kvs : List (Key × D)) (k : Key) : Option D := (kvs.find? fun kv => decide (kv.1 = k)).map (·.2)
def putD (kvs : List (Key × D)) (k : Key) (v : D) : List (Key × D) :=
  if (kvs.any fun kv => decide (kv.1 = k)) = true then kvs.map (fun kv => if kv.1 = k then (kv.1, v) else kv) else kvs ++ [(k, v)]
theorem PuK.val {G : Hp} {k : Key} : ∀ {vs : List (Key × V)} {ds : List (Key × D)}, PuK K G vs ds → (valK ds k = none ∧ valV vs k = none) ∨ ∃ v d, valK ds k = some d ∧ valV vs k = some v ∧ Pu K G v d
  | _, _, .nil => .inl ⟨rfl, rfl⟩
  | _, _, .cons (k := k') (v := v) (vs := vs) (d := d) (ds := ds) h t => by
    by_cases e : k' = k
    · refine .inr ⟨v, d, ?_, ?_, h⟩
      · simp [valK, List.find?_cons, e]
      · simp [valV, List.find?_cons, e]
    · have e1 : valK ((k', d) :: ds) k = valK ds k := by simp [valK, List.find?_cons, e]
      have e2 : valV ((k', v) :: vs) k = valV vs k := by simp [valV, List.find?_cons, e]
      rw [e1, e2]
      exact PuK.val t
theorem PuK.len {G : Hp} : ∀ {vs : List (Key × V)} {ds : List (Key × D)}, PuK K G vs ds → vs.length = ds.length
  | _, _, .nil => rfl
  | _, _, .cons _ t => congrArg (· + 1) (PuK.len t)
theorem PuK.any {G : Hp} {k : Key} : ∀ {vs : List (Key × V)} {ds : List (Key × D)}, PuK K G vs ds → (vs.any fun kv => decide (kv.1 = k)) = (ds.any fun kv => decide (kv.1 = k))
  | _, _, .nil => rfl
  | _, _, .cons _ t => by simp only [List.any_cons, PuK.any t]
theorem PuK.put {G : Hp} {k : Key} {v : V} {d : D} (p : Pu K G v d) {vs : List (Key × V)} {ds : List (Key × D)} (h : PuK K G vs ds) : PuK K G (putK vs k v) (putD ds k d) := by
  have mp : ∀ {vs : List (Key × V)} {ds : List (Key × D)}, PuK K G vs ds → PuK K G (vs.map fun kv => if kv.1 = k then (kv.1, v) else kv) (ds.map fun kv => if kv.1 = k then (kv.1, d) else kv) := by
    intro vs
    induction vs with
    | nil => intro ds h; cases h; exact .nil
    | cons a vs ih =>
      intro ds h
      cases h with
      | cons h t =>
        rename_i k' v' d' ds'
        by_cases e : k' = k
        · simp only [List.map_cons, e, if_true]; exact .cons p (ih t)
        · simp only [List.map_cons, e, if_false]; exact .cons h (ih t)
  have ap : ∀ {vs : List (Key × V)} {ds : List (Key × D)}, PuK K G vs ds → PuK K G (vs ++ [(k, v)]) (ds ++ [(k, d)]) := by
    intro vs
    induction vs with
    | nil => intro ds h; cases h; exact .cons p .nil
    | cons a vs ih => intro ds h; cases h with | cons h t => exact .cons h (ih t)
  unfold putK putD
  rw [h.any]
  split
  · exact mp h
  · exact ap h
def itemsK : RV → Option (List (Key × D))
  | .K k => some k
  | .p (.dct k) => some k
  | _ => none
theorem itemsK_of {G H : Hp} {v : V} {r : RV} {S : List Addr} {ds : List (Key × D)} (l : Le G H) (h : RepV K G H v r S) (e : itemsK r = some ds) : ∃ a vs, v = .ref a ∧ Rd H a (.dK vs) ∧ PuK K G vs ds := by
  cases r with
  | L l => cases e
  | S l b ms => cases e
  | K k => cases e; obtain ⟨a, vs, rfl, _, h1, _, z⟩ := h; exact ⟨a, vs, rfl, .inl h1, z⟩
  | p d =>
    cases d with
    | dct k =>
      cases e
      obtain ⟨_, h⟩ := h
      cases h with
      | dct h1 z => exact ⟨_, _, rfl, .inl (l _ _ h1), z⟩
    | _ => cases e
theorem new_K {G H : Hp} {p : Addr} {vs : List (Key × V)} {ds : List (Key × D)} (l : Le G H) (h : H p = none) (z : PuK K G vs ds) : RepV K G (upd H p (.dK vs)) (.ref p) (.K ds) [p] := ⟨p, vs, rfl, rfl, upd_same, g_none l h, z⟩
theorem Rep.writeK {P : Nat} {G H : Hp} {σ : St} {ρ : DS} {A : Ft} {i : Nat} {ds ds' : List (Key × D)} {a : Addr} {us us' : List (Key × V)} (R : Rep K G H σ ρ A) (hi : ρ[i]? = some (some (.K ds))) (hv : σ[i]? = some (some (.ref a))) (z : PuK K G us' ds') :
    Rep K G (upd H a (.dK us')) σ (ρ.set i (some (.K ds'))) A ∧ Evo G H A G (upd H a (.dK us')) A ∧ Kp P ρ (ρ.set i (some (.K ds'))) := by
  obtain ⟨u, hu, b, vs, e1, e2, h1, h2, h3⟩ := R.slot i _ hi
  rw [hv] at hu
  cases hu
  cases e1
  have hl : i < ρ.length := (List.getElem?_eq_some_iff.mp hi).1
  have ne : ∀ j, j ≠ i → a ∉ A j := fun j hj hm => hj (R.disj j i a hm (by rw [e2]; simp))
  refine ⟨⟨fun b o q => ?_, by rw [List.length_set]; exact R.len, fun j q hj => ?_, fun j hj => ?_, R.disj⟩, ⟨Le.refl G, fun b o q => .inl q, fun b o q n => ?_, fun j b hb => .inr ⟨j, hb⟩⟩, by rw [List.length_set], fun j => ⟨fun r hr => ?_, fun hr => ?_⟩⟩
  · rw [upd_ne (fun e => by subst e; rw [h2] at q; cases q)]
    exact R.imm b o q
  · by_cases e : i = j
    · subst e
      rw [List.getElem?_set_self hl] at hj
      cases hj
      exact ⟨.ref a, hv, a, us', rfl, e2, upd_same, h2, z⟩
    · rw [List.getElem?_set_ne e] at hj
      obtain ⟨w, g1, g2⟩ := R.slot j q hj
      refine ⟨w, g1, g2.stay (Le.refl G) (fun b hb o q => ?_) fun b hb => g2.gfree hb⟩
      rw [upd_ne (fun e' => by subst e'; exact ne j (Ne.symm e) hb)]
      exact q
  · refine R.emp j fun r hr => ?_
    by_cases e : i = j
    · subst e; exact hj _ (List.getElem?_set_self hl)
    · exact hj r (by rw [List.getElem?_set_ne e]; exact hr)
  · rw [upd_ne (fun e => by subst e; exact n i (by rw [e2]; simp))]
    exact q
  · by_cases e : i = j
    · subst e
      rw [hi] at hr; cases hr
      exact ⟨_, List.getElem?_set_self hl, fun _ => rfl⟩
    · exact ⟨r, by rw [List.getElem?_set_ne e]; exact hr, fun _ => rfl⟩
  · by_cases e : i = j
    · subst e; rw [hi] at hr; cases hr
    · rw [List.getElem?_set_ne e]; exact hr
def slotK (ρ : DS) (i : Nat) : Option (List (Key × D)) := match ρ[i]? with
  | some (some (.K ds)) => some ds
  | _ => none
theorem slotK_of {ρ : DS} {i : Nat} {ds : List (Key × D)} (h : slotK ρ i = some ds) : ρ[i]? = some (some (.K ds)) := by
  unfold slotK at h
  split at h
  · next q => cases h; exact q
  · cases h
def pureR : RV → Option D
  | .p d => some d
  | _ => none
theorem pureR_of {r : RV} {d : D} (h : pureR r = some d) : r = .p d := by cases r <;> cases h; rfl
section
variable {X : Cx} {P i : Nat} {o e f : Expr} {es : List Expr} {fo fe ff : FE} {fa : FA} {pos pos' apos cpos : Pos}
def fDict0 : FE := fun ρ => some (.own (.K []), ρ)
theorem de_dict0 : DE X (.Dict [] [] pos) fDict0 := by
  intro ρ rr ρ' h
  cases h
  refine PE.imp pe_dnewK fun σ H Q ⟨G, A, R, k⟩ p hp => ?_
  have al : Al G H G (upd H p (.dK [])) := Al.own R.imm hp
  have fr : ∀ a ∈ [p], H a = none := by simpa using hp
  exact k _ _ _ A [p] al.evo (al.rep R) ⟨new_K R.imm hp .nil, evo_apart (G := G) (H := H) (A := A) R fr⟩ fun a ha => .inl (fr a ha)
instance : KpE P fDict0 := ⟨fun ρ rr ρ' h => by cases h; exact Kp.refl _⟩
def sPutK (fo fe ff : FE) : FS := fun ρ => (ff ρ).bind fun p => (fo p.2).bind fun q => match q.1 with
  | .at i => (fe q.2).bind fun r => (slotK r.2 i).bind fun kvs => (res r.2 r.1).bind fun y => (keyR y).bind fun k => (res r.2 p.1).bind fun z => (pureR z).bind fun d => if kvs.length < 100000 then some (.nx, r.2.set i (some (.K (putD kvs k d)))) else none
  | _ => none
theorem sPutK_inv {ρ ρ' : DS} {fl : FL} (h : sPutK fo fe ff ρ = some (fl, ρ')) : ∃ rf ρ1 i ρ2 re ρ3 kvs y k z d, ff ρ = some (rf, ρ1) ∧ fo ρ1 = some (.at i, ρ2) ∧ fe ρ2 = some (re, ρ3) ∧ slotK ρ3 i = some kvs ∧ res ρ3 re = some y ∧ keyR y = some k ∧ res ρ3 rf = some z ∧ pureR z = some d ∧ kvs.length < 100000 ∧ fl = .nx ∧ ρ' = ρ3.set i (some (.K (putD kvs k d))) := by
  unfold sPutK at h
  obtain ⟨⟨rf, ρ1⟩, h1, h⟩ := obi h
  obtain ⟨⟨ro, ρ2⟩, h2, h⟩ := obi h
  cases ro with
  | own r => cases h
  | «at» i =>
    obtain ⟨⟨re, ρ3⟩, h3, h⟩ := obi h
    obtain ⟨kvs, h4, h⟩ := obi h
    obtain ⟨y, h5, h⟩ := obi h
    obtain ⟨k, h6, h⟩ := obi h
    obtain ⟨z, h7, h⟩ := obi h
    obtain ⟨d, h8, h⟩ := obi h
    split at h
    · next hz => cases h; exact ⟨rf, ρ1, i, ρ2, re, ρ3, kvs, y, k, z, d, h1, h2, h3, h4, h5, h6, h7, h8, hz, rfl, rfl⟩
    · cases h
theorem ds_putK (hu : X.A.units + 64 < cLine) (ho : DE X o fo) (he : DE X e fe) (hf : DE X f ff) [ko : KpE P fo] [ke : KpE P fe] [kf : KpE P ff] (hs : swapsWith f (some (.Subscript o e pos')) pos.line X.env = pure false := by rfl) :
    DSt P X (.Assign [.Subscript o e pos'] f pos) (sPutK fo fe ff) := by
  intro ρ fl ρ' h
  obtain ⟨rf, ρ1, i, ρ2, re, ρ3, kvs, y, k, z, d, h1, h2, h3, h4, h5, h6, h7, h8, hz, rfl, rfl⟩ := sPutK_inv h
  refine PS.imp (ps_dput (by omega) (ho _ _ _ h2) (he _ _ _ h3) (hf _ _ _ h1) hs) fun D σ H ⟨G, A, R, kk⟩ => ⟨G, A, R, fun v1 G1 H1 A1 S1 e1 R1 q1 f1 => ⟨G1, A1, R1, fun v2 G2 H2 A2 S2 e2 R2 q2 f2 => ⟨G2, A2, R2, fun v3 G3 H3 A3 S3 e3 R3 q3 f3 => ?_⟩⟩⟩
  obtain ⟨_, hv⟩ := q2
  obtain ⟨u, hu', b, us, rfl, _, g1, g2, g3⟩ := R3.slot i _ (slotK_of h4)
  rw [hv] at hu'
  cases hu'
  obtain ⟨Sy, ry⟩ := res_of R3 q3 h5
  obtain ⟨Sz, rz⟩ := res_of R3 (q1.evo (e2.trans e3)) h7
  rw [pureR_of h8] at rz
  obtain rfl := keyR_of ry h6
  obtain ⟨R4, e4, kp⟩ := R3.writeK (P := P) (us := us) (slotK_of h4) hv (g3.put (k := k) rz.2)
  refine ⟨b, _, rfl, .inl ⟨us, k, g1, rfl, by rw [g3.len]; exact Nat.lt_of_lt_of_le hz (by decide), rfl⟩, ?_⟩
  exact kk σ G3 _ A3 (((e1.trans e2).trans e3).trans e4) R4 ((((kf.kp _ _ _ h1).trans (ko.kp _ _ _ h2)).trans (ke.kp _ _ _ h3)).trans kp).pin
end
end L2.CF
namespace L2.CF
open PySem PySem.Spec PyProof.Rows
variable {K : PySem.W.Frag}
abbrev FJ := Str → DS → Option (Str × DS)
section
variable {X : Cx} {P : Nat} {e : Expr} {es : List Expr} {fe : FE} {g : FJ} {pos : Pos}
class KpJ (P : Nat) (f : FJ) : Prop where kp : ∀ acc ρ out ρ', f acc ρ = some (out, ρ') → Kp P ρ ρ'
end
section
variable {X : Cx}
end
end L2.CF
namespace L2.CF
open PySem PySem.Spec PyProof.Rows
section
variable {X : Cx}
def gIntOf : GL
  | [.p (.int i)] => some (.p (.int i))
  | [.p (.bl k)] => some (.p (.int (if k then 1 else 0)))
  | _ => none
theorem c_int : CallD X (.type "int") gIntOf := by
  intro xs r e
  unfold gIntOf at e
  split at e
  · cases e
    refine CallR.imp call_int1 fun vs H Q ⟨G, l, h, q⟩ => ?_
    obtain ⟨v, S, rfl, hv⟩ := h.one
    obtain rfl := pu_int hv
    exact .inl ⟨_, rfl, q _ G H [] (Al.refl l) ⟨rfl, .int⟩ (by simp)⟩
  · cases e
    refine CallR.imp call_int1 fun vs H Q ⟨G, l, h, q⟩ => ?_
    obtain ⟨v, S, rfl, hv⟩ := h.one
    obtain ⟨_, hv⟩ := hv
    cases hv
    exact .inr ⟨_, rfl, q _ G H [] (Al.refl l) ⟨rfl, .int⟩ (by simp)⟩
  · cases e
end
end L2.CF
namespace L2.CF
open PySem PySem.Spec PyProof.Rows
structure EAttr (K : PySem.W.Frag) (C : Addr) : Prop where
  ga : PySem.W.findIn K (.ref C) "__getattribute__" = some (some (.builtin "BaseException.__getattribute__"))
  gt : PySem.W.findIn K (.ref C) "__getattr__" = some none
  gc : PySem.W.findIn K (.ref C) "__class__" = some (some (.builtin "object.__class__"))
section
variable {prog : Program} {w : World} {A : Around} {E : Value → Shared → Prop} {h : Heap} {g : Array GenState} {d : Drawn} {t : Nat} {os : OsState} {a : Addr} {o : Obj} {K : PySem.W.Frag}
  {nm q : Str} {C N : Addr} {bs bm : List Value} {hdct : Bool} {sn : List Str} {sub : List Value} {ab : Bool} {col : Option Bool} {dd : Option Addr} {k0 k1 k2 k3 k5 : Option Value} {newId : String}
end
end L2.CF
namespace L2.CF
open PySem PySem.Spec PyProof.Rows
structure EKit (K : PySem.W.Frag) (c : Str) (V : Value) (b : Bool) : Prop where
  ex : ∃ C, PySem.W.nsIn K mainGlobals c = some (some (.ref C)) ∧ PySem.W.excIn K C vErr "ValueError.__new__" = true ∧ EAttr K C ∧ PySem.W.kitOne K (.ref C) V = some b
section
variable {X : Cx} {P : Nat} {a : Expr} {fa : FE} {mt : Str → Option Bool} {x : Str} {p p2 pos : Pos}
end
abbrev _root_.L2.Cx.more (X : Cx) (x : Str) : Cx := { X with N := X.N ++ [x] }
section
variable {X : Cx} {pins : List (Addr × Obj)} {σ : St} {H : Hp} {s : Shared} {x : Str}
theorem Inv.more (I : Inv X pins σ H s) (x : Str) : Inv (X.more x) pins (σ ++ [none]) H s := by
  obtain ⟨m, hn, hl⟩ := I.loc
  refine ⟨⟨I.ok.mod, I.ok.kind, I.ok.glob, I.ok.blt, I.ok.above, I.ok.inj, I.ok.has, I.ok.cab, I.ok.hd, I.ok.frames, I.ok.stk, I.ok.exf, I.ok.bs, I.ok.bsz, I.ok.noex, I.ok.exfs, I.ok.funs, I.ok.frf⟩, I.os, I.bare, I.base, ⟨m, hn, fun i y v e1 e2 e3 => ?_⟩, I.cell, I.free, I.freeC, I.pin, I.hok, ?_⟩
  · have hi : i < σ.length := by
      rcases Nat.lt_or_ge i σ.length with z | z
      · exact z
      · rw [List.getElem?_append_right z] at e2
        cases q : i - σ.length with
        | zero => rw [q] at e2; simp at e2
        | succ j => rw [q] at e2; simp at e2
    rw [List.getElem?_append_left hi] at e2
    have e1 : (X.N ++ [x])[i]? = some y := e1
    rw [List.getElem?_append_left (by rw [← I.len]; exact hi)] at e1
    exact hl i y v e1 e2 e3
  · show (σ ++ [none]).length = (X.N ++ [x]).length
    simp [I.len]
end
end L2.CF
namespace L2.CF
open PySem PySem.Spec PyProof.Rows
variable {K : PySem.W.Frag}
theorem Rep.more {G H : Hp} {σ : St} {ρ : DS} {A : Ft} {v : V} {d : D} (R : Rep K G H σ ρ A) (h : Pu K G v d) : Rep K G H (σ ++ [some v]) (ρ ++ [some (.p d)]) A := by
  refine ⟨R.imm, by simp [R.len], fun i r e => ?_, fun i e => ?_, R.disj⟩
  · rcases Nat.lt_or_ge i ρ.length with z | z
    · rw [List.getElem?_append_left z] at e
      obtain ⟨w, h1, h2⟩ := R.slot i r e
      exact ⟨w, by rw [List.getElem?_append_left (by rw [R.len]; exact z)]; exact h1, h2⟩
    · rw [List.getElem?_append_right z] at e
      cases q : i - ρ.length with
      | succ j => rw [q] at e; simp at e
      | zero =>
        rw [q] at e
        simp at e
        subst e
        have ei : i = ρ.length := by omega
        refine ⟨v, ?_, ?_, h⟩
        · rw [List.getElem?_append_right (by rw [R.len]; omega), R.len, q]; rfl
        · exact R.emp i fun r z => by rw [List.getElem?_eq_none_iff.mpr (by omega)] at z; cases z
  · refine R.emp i fun r z => e r ?_
    rw [List.getElem?_append_left (List.getElem?_eq_some_iff.mp z).1]
    exact z
def cutA (n : Nat) (A : Ft) : Ft := fun i => if i < n then A i else []
theorem take_get {α : Type} {l : List α} {n i : Nat} {a : α} (h : (l.take n)[i]? = some a) : i < n ∧ l[i]? = some a := by
  rw [List.getElem?_take] at h
  split at h
  · next z => exact ⟨z, h⟩
  · cases h
theorem Rep.less {G H : Hp} {σ : St} {ρ : DS} {A : Ft} (n : Nat) (R : Rep K G H σ ρ A) : Rep K G H (σ.take n) (ρ.take n) (cutA n A) := by
  refine ⟨R.imm, by rw [List.length_take, List.length_take, R.len], fun i r e => ?_, fun i e => ?_, fun i j a h1 h2 => ?_⟩
  · obtain ⟨hi, e⟩ := take_get e
    obtain ⟨w, h1, h2⟩ := R.slot i r e
    exact ⟨w, by rw [List.getElem?_take_of_lt hi]; exact h1, by unfold cutA; rw [if_pos hi]; exact h2⟩
  · unfold cutA
    split
    · next hi => exact R.emp i fun r z => e r (by rw [List.getElem?_take_of_lt hi]; exact z)
    · rfl
  · unfold cutA at h1 h2
    split at h1
    · split at h2
      · exact R.disj i j a h1 h2
      · simp at h2
    · simp at h1
theorem Evo.cut {G H G' H' : Hp} {A A' : Ft} (e : Evo G H A G' H' A') (n : Nat) : Evo G H A G' H' (cutA n A') := ⟨e.le, e.new, e.keep, fun i b hb => by
  unfold cutA at hb
  split at hb
  · exact e.foot i b hb
  · simp at hb⟩
section
variable {X : Cx} {P : Nat} {x n : Str} {np hpos pos : Pos} {body suite : List Stmt} {b0 : Stmt} {fb : FSX} {fs : FS} {mt : Str → Bool} {L : Nat}
end
end L2.CF
namespace L2.CF
open PySem PySem.Spec PyProof.Rows
variable {K : PySem.W.Frag}
abbrev FP := DS → Option (List (Key × D) × DS)
class KpP (P : Nat) (f : FP) : Prop where
  kp : ∀ ρ ds ρ', f ρ = some (ds, ρ') → Kp P ρ ρ'
section
variable {X : Cx} {P : Nat} {k v : Expr} {ks : List (Option Expr)} {vs : List Expr} {fk fv : FE} {g : FP} {pos : Pos}
end
section
variable {P : Nat} {fk fv : FE} {g : FP}
end
structure ENs (K : PySem.W.Frag) (mg : Str → Option Value) (c : Str) : Prop where
  ex : ∃ C, PySem.W.nsIn K mainGlobals c = some (some (.ref C)) ∧ mg c = some (.ref C) ∧ ECls K mg c C ∧ EAttr K C
structure IsO (K : PySem.W.Frag) (mg : Str → Option Value) (c x : Str) (b : Bool) : Prop where
  ex : ∃ D, mg x = some (.ref D) ∧ EKit K c (.ref D) b
structure IsT (K : PySem.W.Frag) (mg : Str → Option Value) (c x : Str) (T : String) (b : Bool) : Prop where
  mg : mg x = none
  boot : bootBuiltins x = some (.type T)
  ek : EKit K c (.type T) b
section
variable {X : Cx} {a : Expr} {fa : FE} {c0 x : Str} {b : Bool} {p p2 pos : Pos}
end
end L2.CF
namespace L2
open PySem PySem.Spec PyProof.Rows
theorem closure_ex {env : Env} : ∀ (names : List (Str × NameKind)) (cs : List (Str × Addr)), (∀ y ∈ names, y.2 = .free → ∃ c, env.cells.lookup y.1 = some c) → (∀ y c, cs.lookup y = some c → env.cells.lookup y = some c) →
    ∃ cl, (forIn (m := Sem) names cs fun (x : Str × NameKind) (r : List (Str × Addr)) => match x with
        | (name, kind) => if (kind == NameKind.free) = true then do
            let c ← cellOf env name
            pure (ForInStep.yield ((name, c) :: r))
          else pure (ForInStep.yield r)) = pure cl ∧ (∀ y c, cl.lookup y = some c → env.cells.lookup y = some c) ∧ (∀ y, (y, NameKind.free) ∈ names → ∃ c, cl.lookup y = some c) ∧ ∀ y c, cs.lookup y = some c → cl.lookup y = some c
  | [], cs, _, h => ⟨cs, rfl, h, fun _ z => by simp at z, fun _ _ z => z⟩
  | (n, k) :: names, cs, hn, h => by
    by_cases e : k = .free
    · subst e
      obtain ⟨c, hc⟩ := hn (n, .free) (by simp) rfl
      have h' : ∀ y c', ((n, c) :: cs).lookup y = some c' → env.cells.lookup y = some c' := fun y c' z => by
        rw [List.lookup_cons] at z
        split at z
        · next q => cases z; rw [beq_iff_eq.mp q]; exact hc
        · exact h y c' z
      obtain ⟨cl, e1, e2, e3, e4⟩ := closure_ex names ((n, c) :: cs) (fun y hy => hn y (by simp [hy])) h'
      refine ⟨cl, ?_, e2, fun y hy => ?_, fun y c' z => ?_⟩
      · rw [← e1, List.forIn_cons]
        have q : cellOf env n = pure c := by unfold cellOf; rw [hc]
        simp [q]
      · rcases List.mem_cons.mp hy with z | z
        · cases z
          exact ⟨c, e4 n c (by rw [List.lookup_cons]; simp)⟩
        · exact e3 y z
      · have q := h y c' z
        by_cases en : y = n
        · subst en
          rw [hc] at q; cases q
          exact e4 y c (by rw [List.lookup_cons]; simp)
        · have q2 : (y == n) = false := beq_eq_false_iff_ne.mpr en
          exact e4 y c' (by rw [List.lookup_cons, q2]; exact z)
    · obtain ⟨cl, e1, e2, e3, e4⟩ := closure_ex names cs (fun y hy => hn y (by simp [hy])) h
      refine ⟨cl, ?_, e2, fun y hy => ?_, e4⟩
      · rw [← e1, List.forIn_cons]
        have q : (k == NameKind.free) = false := beq_eq_false_iff_ne.mpr e
        simp [q]
      · rcases List.mem_cons.mp hy with z | z
        · cases z; exact absurd rfl e
        · exact e3 y z
theorem closure_of {env : Env} {sc : Scope} (h : ∀ y ∈ sc.names, y.2 = .free → ∃ c, env.cells.lookup y.1 = some c) :
    ∃ cl, closureFor sc env = pure cl ∧ (∀ y c, cl.lookup y = some c → env.cells.lookup y = some c) ∧ ∀ y, (y, NameKind.free) ∈ sc.names → ∃ c, cl.lookup y = some c := by
  obtain ⟨cl, e1, e2, e3, _⟩ := closure_ex (env := env) sc.names [] h (fun _ _ z => by simp at z)
  refine ⟨cl, ?_, e2, e3⟩
  unfold closureFor
  simp only
  rw [e1]
  rfl
def Cx.blk (X : Cx) (sc : Scope) (M : List Str) (x : Str) (cl : List (Str × Addr)) (C : Addr) (s : Shared) (H : Hp) (fp : List Addr) : Cx :=
  { X with N := M ++ [x], s₀ := s, H₀ := H, env := compEnvC sc cl C X.env, outer := X.stack, ex := fp, fn := fun _ => false, pn := [] }
structure BlkOk (X : Cx) (sc : Scope) (M : List Str) (x : Str) : Prop where
  kind : sc.kind = .function
  nocell : ∀ y ∈ sc.names, y.2 ≠ .cell
  own : ∀ y ∈ sc.names, y.2 = .local → sc.names.lookup y.1 = some .local
  free : ∀ y ∈ sc.names, y.2 = .free → X.env.kindOf y.1 = some .cell ∨ X.env.kindOf y.1 = some .free
  len : M.length = X.N.length
  mask : ∀ (i : Nat) (y : Str), M[i]? = some y → Vis (relabel sc X.env) y → X.N[i]? = some y ∧ (X.env.kindOf y = some .cell ∨ X.env.kindOf y = some .free) ∧ ((relabel sc X.env).names.lookup y = some .cell ∨ (relabel sc X.env).names.lookup y = some .free)
theorem lookup_mem {α : Type} {y : Str} {k : α} : ∀ {l : List (Str × α)}, l.lookup y = some k → (y, k) ∈ l
  | [], h => by simp at h
  | (n, a) :: l, h => by
    rw [List.lookup_cons] at h
    split at h
    · next q => cases h; rw [beq_iff_eq.mp q]; simp
    · exact List.mem_cons_of_mem _ (lookup_mem h)
theorem relabel_free {env : Env} {sc : Scope} (nc : ∀ y ∈ sc.names, y.2 ≠ .cell) {y : Str} (h : (relabel sc env).names.lookup y = some .cell ∨ (relabel sc env).names.lookup y = some .free) : (y, NameKind.free) ∈ sc.names := by
  have key : ∀ k, (y, k) ∈ (relabel sc env).names → (k = .cell ∨ k = .free) → (y, NameKind.free) ∈ sc.names := fun k hm hk => by
    obtain ⟨⟨n, k0⟩, h1, h2⟩ := List.mem_map.mp hm
    simp only at h2
    split at h2
    · next q =>
      cases h2
      simp only [Bool.and_eq_true, beq_iff_eq] at q
      rw [← q.1.1]; exact h1
    · cases h2
      rcases hk with rfl | rfl
      · exact absurd rfl (nc _ h1)
      · exact h1
  rcases h with h | h
  · exact key _ (lookup_mem h) (.inl rfl)
  · exact key _ (lookup_mem h) (.inr rfl)
section
variable {X : Cx} {sc : Scope} {M : List Str} {x : Str} {pins : List (Addr × Obj)} {σ : St} {H : Hp} {s : Shared} {cl : List (Str × Addr)} {fp : List Addr}
theorem blk_ok (B : BlkOk X sc M x) (I : Inv X pins σ H s) (hf : ∀ b ∈ fp, FpOk X pins H b) (ho : ∀ b ∈ fp, ∃ o, s.heap.get? b = some o ∧ ∀ v, o.data ≠ .cell v)
    (c1 : ∀ y c, cl.lookup y = some c → X.env.cells.lookup y = some c) (c2 : ∀ y, (y, NameKind.free) ∈ sc.names → ∃ c, cl.lookup y = some c) : (X.blk sc M x cl s.heap.objs.size s H fp).Ok where
  mod := I.ok.mod
  kind := B.kind
  glob := I.ok.glob
  blt := I.ok.blt
  above := Nat.le_refl _
  inj := fun a b c h1 h2 => I.ok.inj a b c (c1 _ _ h1) (c1 _ _ h2)
  has := fun y h => c2 y (relabel_free (env := X.env) B.nocell h)
  cab := fun y c h => by cases h
  hd := I.ok.hd
  frames := I.ok.frames
  stk := .inl rfl
  exf := fun b hb => by
    obtain ⟨o, e, _⟩ := ho b hb
    exact ⟨Nat.ne_of_lt (Heap.lt_size e), fun y c h => (hf b hb).2.2.2.2.1 y c (c1 _ _ h)⟩
  bs := fun b o e => I.bs b o e
  bsz := Nat.le_trans I.ok.bsz I.sz
  noex := fun b o e hb => by
    rcases (hf b hb).2.2.2.1 with z | z
    · exact I.ok.noex b o e z
    · exact absurd (Nat.lt_of_lt_of_le (Heap.lt_size e) (Nat.le_trans I.ok.bsz z)) (Nat.lt_irrefl _)
  exfs := fun b hb z => by
    rcases List.mem_cons.mp (I.stkSub b z) with e | e
    · exact (hf b hb).2.1 e
    · exact (hf b hb).2.2.1 e
  funs := I.stack
  frf := fun b hb => I.stkFree b hb
theorem blk_in {h' : Heap} (B : BlkOk X sc M x) (I : Inv X pins σ H s) (hf : ∀ b ∈ fp, FpOk X pins H b) (ho : ∀ b ∈ fp, ∃ o, s.heap.get? b = some o ∧ ∀ v, o.data ≠ .cell v)
    (c1 : ∀ y c, cl.lookup y = some c → X.env.cells.lookup y = some c) (c2 : ∀ y, (y, NameKind.free) ∈ sc.names → ∃ c, cl.lookup y = some c) {m : Str → Option Value} (hn : h'.Ns s.heap.objs.size m) (hk : ∀ b o, s.heap.get? b = some o → h'.get? b = some o) {t : Nat} :
    Inv (X.blk sc M x cl s.heap.objs.size s H fp) [] (σ ++ [none]) H { s with heap := h', toks := t } := by
  refine ⟨blk_ok B I hf ho c1 c2, rfl, I.bare, Un.kept hk, ⟨m, hn, fun i y v e1 e2 e3 => ?_⟩, fun y c e => ?_, I.hok.fresh (Nat.le_refl _), fun y c e => I.freeC y c (c1 y c e), fun p hp => by simp [Cx.blk] at hp, I.hok.kept hk, ?_⟩
  · have hi : i < σ.length := by
      rcases Nat.lt_or_ge i σ.length with z | z
      · exact z
      · rw [List.getElem?_append_right z] at e2
        cases q : i - σ.length with
        | zero => rw [q] at e2; simp at e2
        | succ j => rw [q] at e2; simp at e2
    rw [List.getElem?_append_left hi] at e2
    have e1 : (M ++ [x])[i]? = some y := e1
    rw [List.getElem?_append_left (by rw [B.len, ← I.len]; exact hi)] at e1
    obtain ⟨g1, g2, g3⟩ := B.mask i y e1 e3
    obtain ⟨m0, hn0, hl0⟩ := I.loc
    obtain ⟨u, ru, lu⟩ := hl0 i y v g1 e2 (.inr g2)
    refine ⟨u, ru, .inr ⟨g3, ?_⟩⟩
    rcases lu with ⟨k, _⟩ | ⟨_, c, hc, o, ho', hd⟩
    · rcases g2 with z | z <;> (rw [z] at k; cases k)
    · obtain ⟨c', hc'⟩ := c2 y (relabel_free (env := X.env) B.nocell g3)
      have := c1 y c' hc'
      rw [hc] at this
      cases this
      exact ⟨c, hc', o, hk c o ho', hd⟩
  · obtain ⟨v, o, e1, e2⟩ := I.cell y c (c1 y c e)
    exact ⟨v, o, hk c o e1, e2⟩
  · show (σ ++ [none]).length = (M ++ [x]).length
    simp [B.len, I.len]
theorem blk_out {σ' : St} {H' : Hp} {s' : Shared} {h' : Heap} (I : Inv X pins σ H s) (hf : ∀ b ∈ fp, FpOk X pins H b) (J : Inv (X.blk sc M x cl s.heap.objs.size s H fp) [] σ' H' s') (sb : Heap.SameBut s.heap.objs.size s'.heap h') : Inv X pins σ H' { s' with heap := h' } := by
  have I1 : Inv X pins σ H' s' := I.call' (ch := fp) J.os J.base J.hok J.bare fun b hb => ⟨(hf b hb).2.2.2.1, (hf b hb).2.1, (hf b hb).2.2.2.2.1, (hf b hb).2.2.2.2.2⟩
  refine I1.turned (it := s.heap.objs.size) (t' := s'.toks) (fun b o hb e => (sb.2 b hb).trans e) J.free (Nat.ne_of_gt I.lt) (.inr I.sz) (fun y c e z => ?_) fun p hp z => ?_
  · obtain ⟨v, q⟩ := I.cell y c e
    exact absurd q.lt (by rw [z]; exact Nat.lt_irrefl _)
  · exact absurd (Heap.lt_size (I.pin p hp).1) (by rw [z]; exact Nat.lt_irrefl _)
end
def PF (X : Cx) (ifs : List Expr) (t : TT) : Prop :=
  ∀ (pins : List (Addr × Obj)) (s : Shared) (σ : St) (H : Hp) (Q : Bool → Hp → Prop), Inv X pins σ H s → t σ H Q →
    wpAny (model X.prog X.w) X.A (forIn ifs true fun c r => if r = true then do
      let ok ← PySem.isTrue c X.env (eval c X.env)
      pure (ForInStep.yield ok) else pure (ForInStep.yield r)) (TP X pins σ Q) X.xe s
def tYes : TT := fun _ H Q => Q true H
theorem pf_nil {X : Cx} : PF X [] tYes := fun pins s σ H Q I h => by
  rw [List.forIn_nil]
  exact wpAny_pure ⟨H, I, h⟩
theorem pf_one {X : Cx} {c : Expr} {t : TT} (h : PT X c t) : PF X [c] t := fun pins s σ H Q I q => by
  rw [List.forIn_cons]
  simp only [if_true, List.forIn_nil, bind_assoc, pure_bind]
  exact wpAny_bind (thn (h pins s σ H Q I q) fun b s1 z => wpAny_pure z)
def tComp (wi : TI) (tt : TT) (te : TE) : TE := fun σ H Q => wi σ H fun J H1 => ∀ D, H1 D = none → ∃ W : Nat → Nat → Hp → Prop, (∃ m, W 0 m (upd H1 D (.lst []))) ∧ ∀ i m H, W i m H →
  (J.stop i H ∧ Q (.ref D) H) ∨ (J.go i H ∧ ∀ x H', J.yld i H x H' → tt (σ ++ [some x]) H' fun b H2 => if b = true then te (σ ++ [some x]) H2 fun y H3 => ∃ l, H3 D = some (.lst l) ∧ l.length < sizeLine ∧ ∃ m', m' < m ∧ W (i + 1) m' (upd H3 D (.lst (l ++ [y])))
    else ∃ m', m' < m ∧ W (i + 1) m' H2)
theorem comp_core {X : Cx} {use : Option (Value → Sem Unit)} {Qs : Value → Shared → Prop} {pins : List (Addr × Obj)} {s : Shared} {σ : St} {H : Hp} {Q : VK} {cpos : Pos} {elt iter : Expr} {ifs : List Expr} {x : Str} {px pos : Pos} {sc : Scope} {M : List Str} {wi : TI} {tt : TT} {te : TE} (hx : ∀ e s, X.xe e s → False) (hc : X.calm = true) (B : BlkOk X sc M x) (hnd : (M ++ [x]).Nodup) (hlx : sc.names.lookup x = some .local)
    (hlr : (relabel sc X.env).names.lookup x = some .local) (hi : PI X (.Name x px) iter wi) (ht : ∀ cl C s H fp, PF (X.blk sc M x cl C s H fp) ifs tt) (he : ∀ cl C s H fp, PE (X.blk sc M x cl C s H fp) elt te) (hs : ∀ v, foldedSetIterable iter X.env v = pure v) (I : Inv X pins σ H s) (h : tComp wi tt te σ H Q)
    (fin : ∀ (D : Addr) (s3 : Shared) (H3 H5 : Hp) (fp : List Addr) (cl : List (Str × Addr)) (o : Option V) (s6 : Shared), Inv X pins σ H3 s3 → (∀ b ∈ fp, FpOk X pins H3 b) → Inv (X.blk sc M x cl s3.heap.objs.size s3 H3 fp) [] (σ ++ [o]) H5 s6 → Q (.ref D) H5 → compPost (model X.prog X.w) X.A X.xe use Qs (.ref D) s3.heap.objs.size (.ok .next) s6) :
    wpAny (model X.prog X.w) X.A (comprehension (.ListComp elt [{ target := .Name x px, iter := iter, ifs := ifs, is_async := 0 }] sc pos) sc X.env cpos (newList []) false (eval iter X.env) use) Qs X.xe s := by
  obtain ⟨cl, hcl, c1, c2⟩ := closure_of (env := X.env) (sc := sc) fun y hy hk => I.ok.has y.1 (B.free y hy hk)
  refine wpAny_comprehension_free (cl := cl) rfl hs hcl B.kind B.own (thn (hi pins s σ H _ I h) fun v s1 h1 => thn h1 fun itv s2 h2 => ?_)
  obtain ⟨it, fp, tn, J, H2, e, I2, T, st2, f2, qD⟩ := h2
  subst e
  refine wpAny_newList ?_ (Nat.zero_le _)
  have hDn : H2 s2.heap.objs.size = none := I2.hok.fresh (Nat.le_refl _)
  have kp : ∀ b u, s2.heap.get? b = some u → (s2.heap.push { cls := Value.type "list", data := Data.seq [].toArray }).get? b = some u := fun b u e => Heap.get?_push_of_some _ e
  have I3 : Inv X pins σ (upd H2 s2.heap.objs.size (.lst [])) { s2 with heap := s2.heap.push { cls := Value.type "list", data := Data.seq [].toArray } } := I2.laid (t' := s2.toks) kp (Nat.le_refl _) ⟨Nat.zero_le _, [], 0, .nil, Heap.get?_push_size _ rfl⟩
  obtain ⟨W, ⟨m0, w0⟩, turn⟩ := qD _ hDn
  have ho2 := T.obj _ _ st2
  have f3 : ∀ b ∈ fp, FpOk X pins (upd H2 s2.heap.objs.size (.lst [])) b := fun b hb => by
    obtain ⟨o, e, _⟩ := ho2 b hb
    exact ⟨by rw [upd_ne (Nat.ne_of_lt (Heap.lt_size e))]; exact (f2 b hb).1, (f2 b hb).2⟩
  have ho3 : ∀ b ∈ fp, ∃ o, (s2.heap.push { cls := Value.type "list", data := Data.seq [].toArray }).get? b = some o ∧ ∀ v, o.data ≠ .cell v := fun b hb => by
    obtain ⟨o, e, d⟩ := ho2 b hb
    exact ⟨o, kp b o e, d⟩
  have st3 := T.keep _ _ _ st2 fun b _ o e => kp b o e
  generalize s2.heap.push { cls := Value.type "list", data := Data.seq [].toArray } = h3 at I3 ho3 st3 kp ⊢
  generalize hD : s2.heap.objs.size = D at I3 w0 turn f3 hDn ⊢
  clear hD kp ho2
  generalize upd H2 D (.lst []) = H3 at I3 w0 f3
  refine wpAny_newFunctionEnv B.nocell (by simp) (fun h4 ns4 sb4 => ?_) B.kind
  have kp4 : ∀ b u, h3.get? b = some u → h4.get? b = some u := fun b u e => (sb4.2 b (Nat.ne_of_lt (Heap.lt_size e))).trans (Heap.get?_push_of_some _ e)
  have I4 := blk_in (s := { s2 with heap := h3 }) (cl := cl) (t := s2.toks) B I3 f3 ho3 c1 c2 ns4 kp4
  have st4 := T.keep _ _ _ st3 fun b _ o e => kp4 b o e
  have stat : ∀ {H' : Hp}, (∀ b ∈ fp, H' b = none) → ∀ b ∈ fp, FpOk (X.blk sc M x cl h3.objs.size { s2 with heap := h3 } H3 fp) [] H' b := fun {H'} hn b hb => by
    obtain ⟨o, e, _⟩ := ho3 b hb
    refine ⟨hn b hb, Nat.ne_of_lt (Heap.lt_size e), fun z => ?_, .inl hb, fun y c q => (f3 b hb).2.2.2.2.1 y c (c1 _ _ q), fun p hp => by simp [Cx.blk] at hp⟩
    rcases List.mem_cons.mp (I3.stkSub b z) with e | e
    · exact (f3 b hb).2.1 e
    · exact (f3 b hb).2.2.1 e
  have hxi : (M ++ [x])[σ.length]? = some x := by rw [I.len, ← B.len]; simp
  have key : codeAny (model X.prog X.w) X.A (.compLoop (.ListComp elt [{ target := .Name x px, iter := iter, ifs := ifs, is_async := 0 }] sc pos) 0 (.ref it) (.ref D) (compEnvC sc cl h3.objs.size X.env))
      (compPost (model X.prog X.w) X.A X.xe use Qs (.ref D) h3.objs.size) { s2 with heap := h4 } := by
    refine codeAny_compLoop_tests (fun n s' => ∃ i o H', Inv (X.blk sc M x cl h3.objs.size { s2 with heap := h3 } H3 fp) [] (σ ++ [o]) H' s' ∧ tn i s'.heap ∧ (∀ b ∈ fp, H' b = none) ∧ W i n H') ?_ m0 ⟨0, none, H3, I4, st4, fun b hb => (f3 b hb).1, w0⟩
    rintro n s5 ⟨i, o, H5, I5, st5, fr5, w5⟩
    rcases turn i n H5 w5 with ⟨stop, q⟩ | ⟨go, step⟩
    · refine thn (T.done (X.blk sc M x cl h3.objs.size { s2 with heap := h3 } H3 fp) rfl rfl rfl hc i [] s5 _ H5 _ I5 (stat fr5) st5 stop) fun r s6 ⟨hr, I6⟩ => ?_
      subst hr
      exact fin D { s2 with heap := h3 } H3 H5 fp cl o s6 I3 f3 I6 q
    · refine thn (T.item (X.blk sc M x cl h3.objs.size { s2 with heap := h3 } H3 fp) rfl rfl rfl hc i [] s5 _ H5 _ I5 (stat fr5) st5 go) fun r s6 ⟨u, hr, h6⟩ => ?_
      subst hr
      have ea : assign (.Name x px) (compEnvC sc cl h3.objs.size X.env) u = (letOwnedTupleGo (.Name x px) (.ref it) u >>= fun _ => assign (.Name x px) (compEnvC sc cl h3.objs.size X.env) u) := by
        rw [show letOwnedTupleGo (.Name x px) (.ref it) u = pure () from rfl, pure_bind]
      show wpAny (model X.prog X.w) X.A (assign (.Name x px) (compEnvC sc cl h3.objs.size X.env) u) _ _ s6
      rw [ea]
      refine wpAny_bind (thn h6 fun _ s7 ⟨v, H7, I7, r7, y7, st7, fr7⟩ => ?_)
      have I7' := I7.pinned (stat fr7) (T.obj _ _ st7)
      have hset : (σ ++ [o]).set σ.length (some v) = σ ++ [some v] := by simp
      refine wpAny_mono (pg_name (X := X.blk sc M x cl h3.objs.size { s2 with heap := h3 } H3 fp) hnd hxi (.inl hlr) (.inr hlr) _ s7 _ H7 v u (fun σ' H' => σ' = σ ++ [some v] ∧ H' = H7) I7' r7 ⟨hset, rfl⟩) (fun _ s8 ⟨σ8, H8, I8, e1, e2⟩ => ?_) (fun e s z => (hx e s z).elim)
      subst e1 e2
      refine wpAny_mono (ht cl h3.objs.size { s2 with heap := h3 } H3 fp _ s8 _ H8 _ I8 (step v H8 y7)) (fun b s9 ⟨H9, I9, q9⟩ => ?_) (fun e s z => (hx e s z).elim)
      have again : ∀ {H' : Hp} {s' : Shared} {m' : Nat}, Inv (X.blk sc M x cl h3.objs.size { s2 with heap := h3 } H3 fp) ([] ++ pinsAt fp s7.heap) (σ ++ [some v]) H' s' → m' < n → W (i + 1) m' H' →
          ∃ m', m' < n ∧ ∃ i o H'', Inv (X.blk sc M x cl h3.objs.size { s2 with heap := h3 } H3 fp) [] (σ ++ [o]) H'' s' ∧ tn i s'.heap ∧ (∀ b ∈ fp, H'' b = none) ∧ W i m' H'' := fun {H' s' m'} J' hm w' => by
        refine ⟨m', hm, i + 1, some v, H', J'.unpinned, T.keep _ _ _ st7 fun b hb o e => (J'.pin (b, o) (List.mem_append_right _ (List.mem_append_right _ (mem_pinsAt hb e)))).1, fun b hb => ?_, w'⟩
        obtain ⟨o, e, d⟩ := T.obj _ _ st7 b hb
        exact (J'.pin (b, o) (List.mem_append_right _ (List.mem_append_right _ (mem_pinsAt hb e)))).2.1
      cases b with
      | false =>
        obtain ⟨m', hm, w'⟩ := q9
        exact again I9 hm w'
      | true =>
        refine wpAny_mono (he cl h3.objs.size { s2 with heap := h3 } H3 fp _ s9 _ H9 _ I9 q9) (fun y s10 ⟨vy, H10, I10, ry, l, hl, hz, m', hm, w'⟩ => ?_) (fun e s z => (hx e s z).elim)
        refine wpAny_mono (mt_append (X := X.blk sc M x cl h3.objs.size { s2 with heap := h3 } H3 fp) _ s10 _ H10 (.ref D) [vy] _ [y] (fun _ H' => H' = upd H10 D (.lst (l ++ [vy]))) I10 rfl (.cons ry .nil) ⟨D, l, vy, rfl, rfl, hl, hz, rfl⟩) (fun _ s11 ⟨_, H11, I11, _, e11⟩ => ?_) (fun e s z => (hx e s z).elim)
        subst e11
        exact again I11 hm w'
  exact codeAny_compStart_list key (T.self _ 0 _ _ _ st4 key)
theorem pe_comp {X : Cx} {elt iter : Expr} {ifs : List Expr} {x : Str} {px pos : Pos} {sc : Scope} {M : List Str} {wi : TI} {tt : TT} {te : TE} (hx : ∀ e s, X.xe e s → False) (hc : X.calm = true) (B : BlkOk X sc M x) (hnd : (M ++ [x]).Nodup) (hlx : sc.names.lookup x = some .local)
    (hlr : (relabel sc X.env).names.lookup x = some .local) (hi : PI X (.Name x px) iter wi) (ht : ∀ cl C s H fp, PF (X.blk sc M x cl C s H fp) ifs tt) (he : ∀ cl C s H fp, PE (X.blk sc M x cl C s H fp) elt te) (hs : ∀ v, foldedSetIterable iter X.env v = pure v) :
    PE X (.ListComp elt [{ target := .Name x px, iter := iter, ifs := ifs, is_async := 0 }] sc pos) (tComp wi tt te) := by
  intro pins s σ H Q I h
  rw [eval_ListComp]
  refine comp_core hx hc B hnd hlx hlr hi ht he hs I h fun D s3 H3 H5 fp cl o s6 I3 f3 I6 q => ?_
  obtain ⟨m6, hn6, _⟩ := id I6.loc
  exact ⟨m6, hn6, fun h' sb => ⟨.ref D, H5, blk_out I3 f3 I6 sb, rfl, q⟩⟩
theorem ps_comp {X : Cx} {elt iter : Expr} {ifs : List Expr} {x y : Str} {px py pos spos : Pos} {sc : Scope} {M : List Str} {wi : TI} {tt : TT} {te : TE} {i : Nat} (hx : ∀ e s, X.xe e s → False) (hc : X.calm = true) (B : BlkOk X sc M x) (hnd : (M ++ [x]).Nodup) (hlx : sc.names.lookup x = some .local)
    (hlr : (relabel sc X.env).names.lookup x = some .local) (hi : PI X (.Name x px) iter wi) (ht : ∀ cl C s H fp, PF (X.blk sc M x cl C s H fp) ifs tt) (he : ∀ cl C s H fp, PE (X.blk sc M x cl C s H fp) elt te) (hs : ∀ v, foldedSetIterable iter X.env v = pure v)
    (hN : X.N.Nodup) (hy : X.N[i]? = some y) (hl : X.env.scope.names.lookup y = some .local)
    (hsw : swapsWith (.ListComp elt [{ target := .Name x px, iter := iter, ifs := ifs, is_async := 0 }] sc pos) (some (.Name y py)) spos.line X.env = pure true) :
    PS X (.Assign [.Name y py] (.ListComp elt [{ target := .Name x px, iter := iter, ifs := ifs, is_async := 0 }] sc pos) spos) (tAsg (tComp wi tt te) (gName i)) := by
  intro pins s σ H D I h
  rw [arm_exec_Assign]
  refine wpAny_bind ?_
  refine wpAny_standAt ?_
  have e1 : swapsWithSole [.Name y py] (.ListComp elt [{ target := .Name x px, iter := iter, ifs := ifs, is_async := 0 }] sc pos) spos.line X.env = pure true := hsw
  rw [e1, pure_bind, if_pos rfl, arm_evalThenUse_ListComp]
  refine wpAny_bind (wpAny_bind (comp_core (Q := fun v H' => D.nx (σ.set i (some v)) H') hx hc B hnd hlx hlr hi ht he hs I h fun D0 s3 H3 H5 fp cl o s6 I3 f3 I6 q => ?_))
  show wpAny (model X.prog X.w) X.A (assignAll (.ref D0) [assign (.Name y py) X.env]) (fun _ s'' => ∃ m, s''.heap.Ns s3.heap.objs.size m ∧ ∀ h', Heap.SameBut s3.heap.objs.size s''.heap h' → wpAny _ _ _ _ _ _) X.xe s6
  have J6 : Inv X pins σ H5 s6 := by
    have z := blk_out (h' := s6.heap) I3 f3 I6 ⟨rfl, fun _ _ => rfl⟩
    exact z
  obtain ⟨m6, hn6, _⟩ := id I6.loc
  have hn6 : s6.heap.Ns s3.heap.objs.size m6 := hn6
  have hC : H5 s3.heap.objs.size = none := I6.free
  have neL : s3.heap.objs.size ≠ X.env.locals := Nat.ne_of_gt I3.lt
  have neC : ∀ x c, X.env.cells.lookup x = some c → c ≠ s3.heap.objs.size := fun x c e z => by
    obtain ⟨v, q⟩ := I3.cell x c e
    exact absurd q.lt (by rw [z]; exact Nat.lt_irrefl _)
  have neP : ∀ p ∈ X.pn ++ pins, p.1 ≠ s3.heap.objs.size := fun p hp z => absurd (Heap.lt_size (I3.pin p hp).1) (by rw [z]; exact Nat.lt_irrefl _)
  have st := store_ok2 (M := model X.prog X.w) (A := X.A) (E := X.xe) (Q := fun _ s'' => ∃ m, s''.heap.Ns s3.heap.objs.size m ∧ ∀ h', Heap.SameBut s3.heap.objs.size s''.heap h' → Inv X pins (σ.set i (some (.ref D0))) H5 { s'' with heap := h' }) J6 hN hy (.inl hl) (v := .ref D0) rfl (fun s7 I7 ⟨a, sb, ha⟩ => by
    have na : s3.heap.objs.size ≠ a := fun z => by
      rcases ha with e | e
      · exact neL (z.trans e)
      · exact neC _ _ e z.symm
    exact ⟨m6, hn6.sameBut sb na, fun h' sb' => I7.turned (it := s3.heap.objs.size) (t' := s7.toks) (fun b o hb e => (sb'.2 b hb).trans e) hC neL.symm.symm (.inr I3.sz) neC neP⟩) (.inr hl)
  rw [assignAll.eq_2]
  exact wpAny_assign_Name (thn st fun _ s7 ⟨m, hn, k⟩ => ⟨m, hn, fun h' sb => wpAny_pure (wpAny_pure ⟨_, H5, k h' sb, q⟩)⟩)
end L2
namespace L2.CF
open PySem PySem.Spec PyProof.Rows
variable {K : PySem.W.Frag}
theorem PF.imp {X : Cx} {ifs : List Expr} {t t' : TT} (h : PF X ifs t) (i : ∀ σ H Q, t' σ H Q → t σ H Q) : PF X ifs t' := fun pins s σ H Q I q => h pins s σ H Q I (i σ H Q q)
def DF (X : Cx) (ifs : List Expr) (f : FT) : Prop := ∀ ρ b ρ', f ρ = some (b, ρ') → PF X ifs (tDT X.K ρ b ρ')
def fYes : FT := fun ρ => some (true, ρ)
theorem df_nil {X : Cx} : DF X [] fYes := fun ρ b ρ' h => by
  cases h
  exact PF.imp pf_nil fun σ H Q ⟨G, A, R, k⟩ => k G H A (Evo.refl _ _ _) R
theorem df_one {X : Cx} {c : Expr} {f : FT} (h : DT X c f) : DF X [c] f := fun ρ b ρ' hf => pf_one (h ρ b ρ' hf)
instance {P : Nat} : KpT P fYes := ⟨fun ρ b ρ' h => by cases h; exact Kp.refl _⟩
def tAllF (K : PySem.W.Frag) (f : FT) : TT := fun σ H Q => ∃ ρ b ρ', f ρ = some (b, ρ') ∧ tDT K ρ b ρ' σ H Q
def tAllE (K : PySem.W.Frag) (f : FE) : TE := fun σ H Q => ∃ ρ rr ρ', f ρ = some (rr, ρ') ∧ tD K ρ rr ρ' σ H Q
theorem DF.all {X : Cx} {ifs : List Expr} {f : FT} (h : DF X ifs f) : PF X ifs (tAllF X.K f) := fun pins s σ H Q I ⟨ρ, b, ρ', e, q⟩ => h ρ b ρ' e pins s σ H Q I q
theorem DE.all {X : Cx} {e : Expr} {f : FE} (h : DE X e f) : PE X e (tAllE X.K f) := fun pins s σ H Q I ⟨ρ, rr, ρ', e, q⟩ => h ρ rr ρ' e pins s σ H Q I q
def compD (ft : FT) (fe : FE) (n : Nat) : List D → DS → Option (List D × DS)
  | [], ρ => some ([], ρ)
  | d :: ds, ρ => (ft (ρ ++ [some (.p d)])).bind fun p => if p.1 then (fe p.2).bind fun q => match q.1 with
      | .own r => (compD ft fe n ds (q.2.take n)).map fun z => (frzV r :: z.1, z.2)
      | .at _ => none
    else compD ft fe n ds (p.2.take n)
open Classical in
noncomputable def fComp (fi : FI) (ft : FT) (fe : FE) : FE := fun ρ => (fi ρ).bind fun p => (compD ft fe p.2.2.length p.1 p.2.2).bind fun q => if p.1.length ≤ sizeLine then match p.2.1 with
  | none => some (.own (.L q.1), q.2)
  | some (j, r) => if q.2[j]? = some none then some (.own (.L q.1), q.2.set j (some r)) else none
  else none
theorem Rep.aside {G H : Hp} {σ : St} {ρ : DS} {A : Ft} {p : Addr} {o : HO} (R : Rep K G H σ ρ A) (g : G p = none) (n : ∀ i, p ∉ A i) : Rep K G (upd H p o) σ ρ A :=
  ⟨fun b u q => by rw [upd_ne (fun e => by subst e; rw [g] at q; cases q)]; exact R.imm b u q, R.len, fun i r hi => by
    obtain ⟨w, g1, g2⟩ := R.slot i r hi
    refine ⟨w, g1, g2.stay (Le.refl _) (fun a ha u qa => ?_) fun a ha => g2.gfree ha⟩
    rw [upd_ne (fun e => by subst e; exact n i ha)]; exact qa, R.emp, R.disj⟩
theorem Evo.aside {G H G' H' : Hp} {A A' : Ft} {p : Addr} {o : HO} (e : Evo G H A G' H' A') (h : H p = none) : Evo G H A G' (upd H' p o) A' :=
  ⟨e.le, e.new, fun b u q n => by rw [upd_ne (fun z => by subst z; rw [h] at q; cases q)]; exact e.keep b u q n, e.foot⟩
theorem Src.aside {J : It} {ds : List D} {S : List Addr} {Sc : Hp → Hp → Prop} (src : Src K J ds S Sc) {G H : Hp} {p : Addr} {o : HO} (sc : Sc G H) (n : p ∉ S) : Sc G (upd H p o) := by
  refine src.evo G H (fun _ => [p]) G (upd H p o) (fun _ => [p]) ⟨Le.refl G, fun _ _ q => .inl q, fun b u q nb => ?_, fun i b hb => .inr ⟨i, hb⟩⟩ (fun i a ha z => ?_) sc
  · rw [upd_ne (fun e => by subst e; exact nb 0 (by simp))]; exact q
  · simp at z; subst z; exact n ha
section
variable {X : Cx} {elt iter : Expr} {ifs : List Expr} {x : Str} {px pos : Pos} {sc : Scope} {M : List Str} {fi : FI} {ft : FT} {fe : FE} {P : Nat}
theorem fComp_inv {ρ ρ' : DS} {rr : RR} (h : fComp fi ft fe ρ = some (rr, ρ')) : ∃ ds bk ρ1 es ρ2, fi ρ = some (ds, bk, ρ1) ∧ compD ft fe ρ1.length ds ρ1 = some (es, ρ2) ∧ ds.length ≤ sizeLine ∧ rr = .own (.L es) ∧ ((bk = none ∧ ρ' = ρ2) ∨ ∃ j r, bk = some (j, r) ∧ ρ2[j]? = some none ∧ ρ' = ρ2.set j (some r)) := by
  unfold fComp at h
  obtain ⟨⟨ds, bk, ρ1⟩, h1, h⟩ := obi h
  obtain ⟨⟨es, ρ2⟩, h2, h⟩ := obi h
  split at h
  · next hz =>
    cases bk with
    | none => cases h; exact ⟨ds, none, ρ1, es, ρ2, h1, h2, hz, rfl, .inl ⟨rfl, rfl⟩⟩
    | some jr =>
      obtain ⟨j, r⟩ := jr
      simp only at h
      split at h
      · next hj => cases h; exact ⟨ds, some (j, r), ρ1, es, ρ2, h1, h2, hz, rfl, .inr ⟨j, r, rfl, hj, rfl⟩⟩
      · cases h
  · cases h
theorem comp_ent {ρ ρ' : DS} {rr : RR} (hf : fComp fi ft fe ρ = some (rr, ρ')) : ∃ ds bk ρ1, fi ρ = some (ds, bk, ρ1) ∧ ∀ σ H Q, tD K ρ rr ρ' σ H Q → tComp (tDI K ρ ds bk ρ1) (tAllF K ft) (tAllE K fe) σ H Q := by
  obtain ⟨ds, bk, ρ1, es, ρ2, h1, h2, hz, rfl, hbk⟩ := fComp_inv hf
  refine ⟨ds, bk, ρ1, h1, fun σ H Q ⟨G, A, R, k⟩ => ⟨G, A, R, fun J G1 H1 A1 S Sc v1 R1 src sc ap fr ok D hD => ?_⟩⟩
  have nS : D ∉ S := fun z => by obtain ⟨o, q⟩ := src.there _ _ sc D z; rw [hD] at q; cases q
  have nA1 : ∀ i, D ∉ A1 i := fun i z => by obtain ⟨o, q⟩ := R1.there z; rw [hD] at q; cases q
  have hn : σ.length = ρ1.length := R1.len
  refine ⟨fun i m H' => m = ds.length - i ∧ i ≤ ds.length ∧ ∃ G' A' ρi dn rest, Evo G1 H1 A1 G' H' A' ∧ Rep K G' H' σ ρi A' ∧ Sc G' H' ∧ (∀ j, ∀ a ∈ S, a ∉ A' j) ∧ RepV K G' H' (.ref D) (.L dn) [D] ∧ (∀ j, D ∉ A' j) ∧ dn.length ≤ i ∧ compD ft fe ρ1.length (ds.drop i) ρi = some (rest, ρ2) ∧ es = dn ++ rest,
    ⟨ds.length, by simp, Nat.zero_le _, G1, A1, ρ1, [], es, (Al.own R1.imm hD).evo, (Al.own R1.imm hD).rep R1, src.aside sc nS, ap, new_L R1.imm hD .nil, nA1, Nat.zero_le _, by rw [List.drop_zero]; exact h2, rfl⟩, ?_⟩
  rintro i m H2 ⟨rfl, hi', G2, A2, ρi, dn, rest, e2, R2, sc2, ap2, hd2, nA2, hdn, hcd, rfl⟩
  by_cases hlt : i < ds.length
  · have hd : ds[i]? = some ds[i] := List.getElem?_eq_getElem hlt
    rw [List.drop_eq_getElem_cons hlt] at hcd
    unfold compD at hcd
    obtain ⟨⟨b, ρt⟩, ht1, hcd⟩ := obi hcd
    obtain ⟨go, yl⟩ := src.go i _ G2 H2 R2.imm sc2 hd
    refine .inr ⟨go, fun v H3 y => ?_⟩
    obtain ⟨G3, al, pv⟩ := yl v H3 y
    have e3 := e2.trans al.evo
    have R3 := al.rep R2
    have sc3 := src.evo _ _ A2 _ _ A2 al.evo ap2 sc2
    have hd3 := al.rv hd2
    have tk : (σ ++ [some v]).take ρ1.length = σ := by rw [← hn]; simp
    refine ⟨ρi ++ [some (.p ds[i])], b, ρt, ht1, G3, A2, R3.more pv, fun G4 H4 A4 e4 R4 => ?_⟩
    have sc4 := src.evo _ _ _ _ _ _ e4 ap2 sc3
    have ap4 := src.apart e4 sc3 ap2
    have hd4 := e4.held hd3 (fun j a ha => by simp at ha; subst ha; exact nA2 j)
    have nA4 : ∀ j, D ∉ A4 j := fun j => e4.heldApart hd3 (fun j a ha => by simp at ha; subst ha; exact nA2 j) j D (by simp)
    cases b with
    | false =>
      refine ⟨ds.length - (i + 1), by omega, rfl, hlt, G4, cutA ρ1.length A4, ρt.take ρ1.length, dn, rest, (e3.trans e4).cut _, ?_, sc4, fun j a ha z => ?_, hd4, fun j z => ?_, by omega, hcd, rfl⟩
      · have := R4.less ρ1.length
        rw [tk] at this
        exact this
      · unfold cutA at z
        split at z
        · exact ap4 j a ha z
        · simp at z
      · unfold cutA at z
        split at z
        · exact nA4 j z
        · simp at z
    | true =>
      obtain ⟨⟨rr, ρe⟩, hfe, hcd⟩ := obi hcd
      cases rr with
      | «at» q => cases hcd
      | own r =>
        obtain ⟨⟨rest', ρ3⟩, hcd', e0⟩ := omi hcd
        cases e0
        refine ⟨ρt, .own r, ρe, hfe, G4, A4, R4, fun y G5 H5 A5 Sy e5 R5 ⟨ry, apy⟩ fry => ?_⟩
        have sc5 := src.evo _ _ _ _ _ _ e5 ap4 sc4
        have ap5 := src.apart e5 sc4 ap4
        have hD4 : ∀ j, ∀ a ∈ [D], a ∉ A4 j := fun j a ha => by simp at ha; subst ha; exact nA4 j
        have hd5 := e5.held hd4 hD4
        have nA5 : ∀ j, D ∉ A5 j := fun j => e5.heldApart hd4 hD4 j D (by simp)
        have nSy : D ∉ Sy := fun z => by
          rcases fry D z with q | ⟨j, q⟩
          · obtain ⟨o, q'⟩ := hd4.there (a := D) (by simp)
            rw [q] at q'; cases q'
          · exact nA4 j q
        obtain ⟨G6, l1, l2, nw, pu⟩ := ry.frz R5.imm
        have R6 := R5.frzG l1 l2 nw apy
        have e6 : Evo G4 H4 A4 G6 H5 A5 := ⟨e5.le.trans l1, fun b o q => by
          rcases nw b o q with q | q
          · exact e5.new b o q
          · exact .inr (fry b q), e5.keep, e5.foot⟩
        have sc6 := src.evo _ _ _ _ _ _ e6 ap4 sc4
        have hd6 := e6.held hd4 hD4
        obtain ⟨D', vs, eD, _, hH, hG, zs⟩ := hd6
        cases eD
        have hl : vs.length = dn.length := zs.length
        refine ⟨vs, hH, by omega, ds.length - (i + 1), by omega, rfl, hlt, G6, cutA ρ1.length A5, ρe.take ρ1.length, dn ++ [frzV r], rest', ((e3.trans e4).trans e6).cut _ |>.aside hD, ?_, src.aside sc6 nS, fun j a ha z => ?_, ⟨D, vs ++ [y], rfl, rfl, upd_same, hG, zs.append (.cons pu .nil)⟩, fun j z => ?_, by simp; omega, hcd', by simp⟩
        · have := (R6.less ρ1.length).aside (p := D) (o := .lst (vs ++ [y])) hG fun j z => by
            unfold cutA at z
            split at z
            · exact nA5 j z
            · simp at z
          rw [tk] at this
          exact this
        · unfold cutA at z
          split at z
          · exact ap5 j a ha z
          · simp at z
        · unfold cutA at z
          split at z
          · exact nA5 j z
          · simp at z
  · have e : ds.drop i = [] := List.drop_eq_nil_of_le (by omega)
    rw [e] at hcd
    cases hcd
    refine .inl ⟨src.stop i G2 H2 R2.imm sc2 (by omega), ?_⟩
    rw [List.append_nil] at k
    rcases hbk with ⟨rfl, rfl⟩ | ⟨j, r, rfl, hj, rfl⟩
    · exact k _ G2 H2 A2 [D] (v1.trans e2) R2 ⟨hd2, fun j a ha => by simp at ha; subst ha; exact nA2 j⟩ fun a ha => by simp at ha; subst ha; exact v1.back hD
    · obtain ⟨v, hv, hr⟩ := ok
      refine k _ G2 H2 _ [D] ((v1.trans e2).storeA fr) (R2.back hj hv (hr _ _ sc2) ap2) ⟨hd2, fun q a ha z => ?_⟩ fun a ha => by simp at ha; subst ha; exact v1.back hD
      simp at ha
      subst ha
      by_cases eq : q = j
      · simp only [eq, if_true] at z; exact nS z
      · simp only [eq, if_false] at z; exact nA2 q z
theorem de_comp (hx : ∀ e s, X.xe e s → False) (hc : X.calm = true) (B : BlkOk X sc M x) (hnd : (M ++ [x]).Nodup) (hi : DI X (.Name x px) iter fi) (ht : ∀ cl C s H fp, DF (X.blk sc M x cl C s H fp) ifs ft) (he : ∀ cl C s H fp, DE (X.blk sc M x cl C s H fp) elt fe)
    (hlx : sc.names.lookup x = some .local := by rfl) (hlr : (relabel sc X.env).names.lookup x = some .local := by rfl) (hs : ∀ v, foldedSetIterable iter X.env v = pure v := by intro _; rfl) :
    DE X (.ListComp elt [{ target := .Name x px, iter := iter, ifs := ifs, is_async := 0 }] sc pos) (fComp fi ft fe) := by
  intro ρ rr ρ' hf
  obtain ⟨ds, bk, ρ1, h1, ent⟩ := comp_ent (K := X.K) hf
  exact PE.imp (pe_comp (tt := tAllF X.K ft) (te := tAllE X.K fe) hx hc B hnd hlx hlr (hi _ _ _ _ h1) (fun cl C s H fp => (ht cl C s H fp).all) (fun cl C s H fp => (he cl C s H fp).all) hs) ent
theorem Kp.cut {ρ ρ' : DS} {o : Option RV} (k : Kp P (ρ ++ [o]) ρ') : Kp P ρ (ρ'.take ρ.length) := by
  have hl : ρ'.length = ρ.length + 1 := by rw [k.1]; simp
  refine ⟨by rw [List.length_take, hl]; omega, fun i => ⟨fun r h => ?_, fun h => ?_⟩⟩
  · have hi : i < ρ.length := (List.getElem?_eq_some_iff.mp h).1
    obtain ⟨r', h1, h2⟩ := (k.2 i).1 r (by rw [List.getElem?_append_left hi]; exact h)
    exact ⟨r', by rw [List.getElem?_take_of_lt hi]; exact h1, h2⟩
  · have hi : i < ρ.length := (List.getElem?_eq_some_iff.mp h).1
    rw [List.getElem?_take_of_lt hi]
    exact (k.2 i).2 (by rw [List.getElem?_append_left hi]; exact h)
theorem compD_kp [kt : KpT P ft] [ke : KpE P fe] : ∀ {ds : List D} {ρ ρ2 : DS} {es : List D}, compD ft fe ρ.length ds ρ = some (es, ρ2) → Kp P ρ ρ2
  | [], ρ, ρ2, es, h => by cases h; exact Kp.refl _
  | d :: ds, ρ, ρ2, es, h => by
    unfold compD at h
    obtain ⟨⟨b, ρt⟩, h1, h⟩ := obi h
    have k1 := kt.kp _ _ _ h1
    cases b with
    | false =>
      have kc := k1.cut
      have h : compD ft fe ρ.length ds (ρt.take ρ.length) = some (es, ρ2) := h
      rw [← kc.1] at h
      exact kc.trans (compD_kp (ρ := ρt.take ρ.length) (by rw [← h, kc.1]))
    | true =>
      obtain ⟨⟨rr, ρe⟩, h2, h⟩ := obi h
      cases rr with
      | «at» i => cases h
      | own r =>
        obtain ⟨⟨es', ρ3⟩, h3, h4⟩ := omi h
        cases h4
        have kc := (k1.trans (ke.kp _ _ _ h2)).cut
        have h3 : compD ft fe ρ.length ds (ρe.take ρ.length) = some (es', ρ3) := h3
        rw [← kc.1] at h3
        exact kc.trans (compD_kp (ρ := ρe.take ρ.length) (by rw [← h3, kc.1]))
instance [ki : KpI P fi] [kt : KpT P ft] [ke : KpE P fe] : KpE P (fComp fi ft fe) := ⟨fun ρ rr ρ' h => by
  obtain ⟨ds, bk, ρ1, es, ρ2, h1, h2, hz, rfl, hbk⟩ := fComp_inv h
  have kp := ki.kp _ _ _ _ h1
  have k2 := compD_kp (P := P) h2
  rcases hbk with ⟨rfl, rfl⟩ | ⟨j, r, rfl, hj, rfl⟩
  · have kp : Kp P ρ ρ1 := kp
    exact kp.trans k2
  · obtain ⟨ρ0, k0, hj0, ho, rfl⟩ := kp
    have hl0 : j < ρ0.length := (List.getElem?_eq_some_iff.mp hj0).1
    have hl2 : j < ρ2.length := (List.getElem?_eq_some_iff.mp hj).1
    refine k0.trans ⟨by rw [List.length_set, k2.1, List.length_set], fun i => ⟨fun q hq => ?_, fun hq => ?_⟩⟩
    · by_cases e : j = i
      · subst e
        rw [hj0] at hq; cases hq
        exact ⟨_, List.getElem?_set_self hl2, fun _ => rfl⟩
      · obtain ⟨r', g1, g2⟩ := (k2.2 i).1 q (by rw [List.getElem?_set_ne e]; exact hq)
        exact ⟨r', by rw [List.getElem?_set_ne e]; exact g1, g2⟩
    · by_cases e : j = i
      · subst e; rw [hj0] at hq; cases hq
      · rw [List.getElem?_set_ne e]
        exact (k2.2 i).2 (by rw [List.getElem?_set_ne e]; exact hq)⟩
theorem ds_setC {i : Nat} {y : Str} {py spos : Pos} (hN : X.N.Nodup) (hy : X.N[i]? = some y) (hl : X.env.scope.names.lookup y = some .local) (hx : ∀ e s, X.xe e s → False) (hc : X.calm = true) (B : BlkOk X sc M x) (hnd : (M ++ [x]).Nodup) (hi : DI X (.Name x px) iter fi) (ht : ∀ cl C s H fp, DF (X.blk sc M x cl C s H fp) ifs ft) (he : ∀ cl C s H fp, DE (X.blk sc M x cl C s H fp) elt fe)
    [ki : KpI P fi] [kt : KpT P ft] [ke : KpE P fe] (hlx : sc.names.lookup x = some .local := by rfl) (hlr : (relabel sc X.env).names.lookup x = some .local := by rfl) (hs : ∀ v, foldedSetIterable iter X.env v = pure v := by intro _; rfl)
    (hsw : swapsWith (.ListComp elt [{ target := .Name x px, iter := iter, ifs := ifs, is_async := 0 }] sc pos) (some (.Name y py)) spos.line X.env = pure true := by rfl) :
    DSt P X (.Assign [.Name y py] (.ListComp elt [{ target := .Name x px, iter := iter, ifs := ifs, is_async := 0 }] sc pos) spos) (sSet P i (fComp fi ft fe)) := by
  intro ρ fl ρ' h
  unfold sSet at h
  obtain ⟨⟨rr, ρ1⟩, e1, h⟩ := obi h
  cases rr with
  | own r =>
    obtain ⟨ρ2, h1, h2⟩ := omi h
    cases h2
    obtain ⟨ds, bk, ρ3, g1, ent⟩ := comp_ent (K := X.K) e1
    have hk : KpE P (fComp fi ft fe) := inferInstance
    refine PS.imp (ps_comp (tt := tAllF X.K ft) (te := tAllE X.K fe) hx hc B hnd hlx hlr (hi _ _ _ _ g1) (fun cl C s H fp => (ht cl C s H fp).all) (fun cl C s H fp => (he cl C s H fp).all) hs hN hy hl hsw) fun D σ H ⟨G, A, R, k⟩ => ent σ H _ ⟨G, A, R, fun v G1 H1 A1 S e R1 q f1 => ?_⟩
    obtain ⟨R2, p2⟩ := R1.store (P := P) h1 q.1 q.2
    exact k _ G1 H1 _ (e.storeA f1) R2 ((hk.kp _ _ _ e1).pin.trans p2)
  | «at» j => cases h
end
end L2.CF
namespace L2
open PySem PySem.Spec PyProof.Rows
section
variable {X : Cx}
end
end L2
namespace L2.CF
open PySem PySem.Spec PyProof.Rows
variable {K : PySem.W.Frag}
section
variable {X : Cx} {a b c : Expr} {fa fb fc : FE} {pos : Pos} {P : Nat}
end
def blkChk (kf : Str → Option NameKind) (sc R : Scope) (N M : List Str) : Bool :=
  sc.kind == .function && sc.names.all (fun y => y.2 != .cell) && sc.names.all (fun y => y.2 != .local || sc.names.lookup y.1 == some .local) && sc.names.all (fun y => y.2 != .free || kf y.1 == some .cell || kf y.1 == some .free) && M.length == N.length
    && (M.zip N).all fun p => match R.names.lookup p.1 with
      | some .local => false
      | some .cell => p.1 == p.2 && (kf p.1 == some .cell || kf p.1 == some .free)
      | some .free => p.1 == p.2 && (kf p.1 == some .cell || kf p.1 == some .free)
      | _ => true
theorem blk_of {X : Cx} {sc : Scope} {M : List Str} {x : Str} (h : blkChk X.env.kindOf sc (relabel sc X.env) X.N M = true) : BlkOk X sc M x := by
  unfold blkChk at h
  simp only [Bool.and_eq_true, beq_iff_eq, List.all_eq_true, Bool.or_eq_true, bne_iff_ne, ne_eq] at h
  obtain ⟨⟨⟨⟨⟨h1, h2⟩, h3⟩, h4⟩, h5⟩, h6⟩ := h
  refine ⟨h1, h2, fun y hy e => (h3 y hy).resolve_left (fun z => z e), fun y hy e => ?_, h5, fun i y hi hv => ?_⟩
  · rcases h4 y hy with (z | z) | z
    · exact absurd e z
    · exact .inl z
    · exact .inr z
  · have hiM : i < M.length := (List.getElem?_eq_some_iff.mp hi).1
    have hN : X.N[i]? = some (X.N[i]'(by omega)) := List.getElem?_eq_getElem (by omega)
    have hm : (y, X.N[i]'(by omega)) ∈ M.zip X.N := by
      refine List.mem_of_getElem? (i := i) ?_
      rw [List.getElem?_zip_eq_some]
      exact ⟨hi, hN⟩
    have q := h6 _ hm
    rcases hv with z | z | z
    · rw [z] at q; cases q
    · rw [z] at q
      simp only [Bool.and_eq_true, beq_iff_eq, Bool.or_eq_true] at q
      exact ⟨by rw [hN]; exact congrArg some q.1.symm, q.2, .inl z⟩
    · rw [z] at q
      simp only [Bool.and_eq_true, beq_iff_eq, Bool.or_eq_true] at q
      exact ⟨by rw [hN]; exact congrArg some q.1.symm, q.2, .inr z⟩
end L2.CF
namespace L2.CF
open PySem PySem.Spec PyProof.Rows
variable {K : PySem.W.Frag}
abbrev GRm := RV → List RV → Option RV
section
variable {X : Cx} {o e : Expr} {es : List Expr} {fo fe fi : FE} {fa : FA} {name : Str} {apos cpos pos : Pos} {id T : String} {g : GRm} {P : Nat}
def strsD : List D → Option (List Str)
  | [] => some []
  | .str i :: ds => (strsD ds).map (i :: ·)
  | _ :: _ => none
def gJoin : GRm
  | .p (.str sep), [x] => (itemsL x).bind fun ds => (strsD ds).bind fun ys => if (ys.map Str.length).sum + ys.length * sep.length ≤ 16777216 then some (.p (.str (Txt.join sep ys))) else none
  | _, _ => none
end
section
variable {X : Cx} {o e : Expr} {es : List Expr} {fo fe fi : FE} {fa : FA} {name : Str} {apos cpos pos : Pos} {id T : String} {g : GRm} {P : Nat}
def fDIx (fo fe : FE) : FE := fun ρ => (fo ρ).bind fun p => (fe p.2).bind fun q => (res q.2 p.1).bind fun x => (itemsK x).bind fun kvs => (res q.2 q.1).bind fun y => (keyR y).bind fun k => (valK kvs k).map fun d => (.own (.p d), q.2)
theorem fDIx_inv {ρ ρ' : DS} {rr : RR} (h : fDIx fo fe ρ = some (rr, ρ')) : ∃ ro ρ1 re x kvs y k d, fo ρ = some (ro, ρ1) ∧ fe ρ1 = some (re, ρ') ∧ res ρ' ro = some x ∧ itemsK x = some kvs ∧ res ρ' re = some y ∧ keyR y = some k ∧ valK kvs k = some d ∧ rr = .own (.p d) := by
  unfold fDIx at h
  obtain ⟨⟨ro, ρ1⟩, h1, h⟩ := obi h
  obtain ⟨⟨re, ρ2⟩, h2, h⟩ := obi h
  obtain ⟨x, h3, h⟩ := obi h
  obtain ⟨kvs, h4, h⟩ := obi h
  obtain ⟨y, h5, h⟩ := obi h
  obtain ⟨k, h6, h⟩ := obi h
  obtain ⟨d, h7, h8⟩ := omi h
  cases h8
  exact ⟨ro, ρ1, re, x, kvs, y, k, d, h1, h2, h3, h4, h5, h6, h7, rfl⟩
theorem de_dix (hu : X.A.units + 64 < cLine) (ho : DE X o fo) (he : DE X e fe) (hs : NoSl e := by exact fun _ _ => rfl) : DE X (.Subscript o e pos) (fDIx fo fe) := by
  intro ρ rr ρ' hf
  obtain ⟨ro, ρ1, re, x, kvs, y, k, d, h1, h2, h3, h4, h5, h6, h7, rfl⟩ := fDIx_inv hf
  refine PE.imp (pe_dget (by omega) (ho _ _ _ h1) (he _ _ _ h2) hs) fun σ H Q ⟨G, A, R, kk⟩ => ⟨G, A, R, fun v1 G1 H1 A1 S1 e1 R1 q1 f1 => ⟨G1, A1, R1, fun v2 G2 H2 A2 S2 e2 R2 q2 f2 => ?_⟩⟩
  obtain ⟨So, ro2⟩ := res_of R2 (q1.evo e2) h3
  obtain ⟨Sy, ry⟩ := res_of R2 q2 h5
  obtain ⟨a, vs, rfl, rd, z⟩ := itemsK_of R2.imm ro2 h4
  obtain rfl := keyR_of ry h6
  rcases z.val (k := k) with ⟨g1, _⟩ | ⟨w, dw, g1, g2, g3⟩
  · rw [h7] at g1; cases g1
  · rw [h7] at g1; cases g1
    exact ⟨a, w, rfl, .inl ⟨vs, k, rd, rfl, g2.symm⟩, kk _ G2 H2 A2 [] (e1.trans e2) R2 ⟨⟨rfl, g3⟩, by simp⟩ (by simp)⟩
instance [a : KpE P fo] [b : KpE P fe] : KpE P (fDIx fo fe) := ⟨fun ρ rr ρ' h => by
  obtain ⟨ro, ρ1, re, x, kvs, y, k, d, h1, h2, _⟩ := fDIx_inv h
  exact (a.kp _ _ _ h1).trans (b.kp _ _ _ h2)⟩
def gPopAt : GLm := fun ds xs => match xs with
  | [.p (.int i)] => if 0 ≤ i ∧ i < 100000 then (ds[i.toNat]?).map fun d => (ds.eraseIdx i.toNat, d) else none
  | _ => none
theorem Pus.erase {G : Hp} : ∀ {vs : List V} {ds : List D} (i : Nat), Pus K G vs ds → Pus K G (vs.eraseIdx i) (ds.eraseIdx i)
  | _, _, _, .nil => .nil
  | _, _, 0, .cons _ t => t
  | _, _, i + 1, .cons h t => .cons h (Pus.erase i t)
theorem m_popAt : LmD X "list.pop" gPopAt := by
  intro ds xs ds' d e
  unfold gPopAt at e
  split at e
  · next i =>
    split at e
    · next hz =>
      obtain ⟨dd, h1, h2⟩ := omi e
      cases h2
      refine MtR.imp mt_popAt fun v vs H Q ⟨G, a, us, l, e1, g1, g2, z, rl, q⟩ => ?_
      obtain ⟨w, S, rfl, _, hw⟩ := rl.one
      cases hw
      obtain ⟨u, hu, pu⟩ := z.get h1
      have hlt : i.toNat < us.length := (List.getElem?_eq_some_iff.mp hu).1
      refine ⟨a, us, i, i.toNat, u, e1, rfl, g1, by omega, by omega, ?_, hu, q u _ (z.erase _) pu⟩
      exact PySem.StrLaws.seqIndex_nonneg hz.1 (by omega)
    · cases e
  · cases e
def gTupOf : GL
  | [x] => match itemsL x with
    | some ds => some (.p (.tup ds))
    | none => (itemsT x).map fun ds => .p (.tup ds)
  | _ => none
theorem c_tuple : CallD X (.type "tuple") gTupOf := by
  intro xs r e
  unfold gTupOf at e
  split at e
  · next x =>
    split at e
    · next ds h1 =>
      cases e
      refine CallR.imp call_tuple_of fun vs H Q ⟨G, l, h, q⟩ => ?_
      obtain ⟨v, S, rfl, hv⟩ := h.one
      obtain ⟨a, ws, rfl, sq, z⟩ := itemsL_of l hv h1
      refine ⟨a, ws, rfl, .inl ⟨sq, fun p hp => ?_⟩⟩
      have al : Al G H (upd G p (.tup ws)) (upd H p (.tup ws)) := Al.frozen l hp
      exact q _ _ _ [] al ⟨rfl, .tup (.inl (.inl upd_same)) (z.mono al.leG)⟩ (by simp)
    · obtain ⟨ds, h1, h2⟩ := omi e
      cases h2
      refine CallR.imp call_tuple_of fun vs H Q ⟨G, l, h, q⟩ => ?_
      obtain ⟨v, S, rfl, hv⟩ := h.one
      obtain ⟨a, ws, rfl, sq, z⟩ := itemsT_of l hv h1
      have hx : x = .p (.tup ds) := by
        cases x with
        | p d => cases d <;> first | (cases h1; rfl) | cases h1
        | L l => cases h1
        | K l => cases h1
        | S l b ms => cases h1
      subst hx
      exact ⟨a, ws, rfl, .inr ⟨sq, q _ G H [] (Al.refl l) ⟨rfl, hv.2⟩ (by simp)⟩⟩
  · cases e
end
end L2.CF
namespace L2.CF
open PySem PySem.Spec PyProof.Rows
variable {K : PySem.W.Frag}
structure TupC (K : PySem.W.Frag) (mg : Str → Option Value) (x : Str) (ys : List Str) : Prop where
  ex : ∃ a o its n, mg x = some (.ref a) ∧ K.lookup a = some o ∧ o.cls = .type "tuple" ∧ o.dict = none ∧ o.data = .seq its n ∧ its.size ≤ sizeLine ∧ StrsAre its.toList ys
section
variable {X : Cx} {e : Expr} {fe : FE} {x : Str} {ys : List Str} {apos cpos pos p : Pos} {P : Nat}
end
section
variable {X : Cx} {P : Nat} {a : Expr} {es : List Expr} {f : FG} {r : FGs} {pos : Pos}
end
end L2.CF
namespace L2.CF
open PySem PySem.Spec
def ownB (ρ : DS) (i : Nat) : Bool := match ρ[i]? with
  | some (some r) => ownd r
  | _ => false
section
variable {P i n : Nat} {f g : FS} {fa fb : FE} {ga gb : FA} {ta tb : FT} {ρ : DS} {d : D} {x y : RV} {g2 : G2} {gl : GL} {gm : GLm} {F : FF} {xs : List RV} {rs : List RR}
@[simp] theorem e_runBody : runBody n f xs = (f (xs.map some ++ List.replicate (n - xs.length) none)).bind fun q => match q.1 with
  | .rt r => (outAt q.2 0 xs).map fun ys => (r, ys)
  | .nx => (outAt q.2 0 xs).map fun ys => (.p .non, ys)
  | _ => none := rfl
@[simp] theorem e_outN : outAt ρ i [] = some [] := rfl
@[simp] theorem e_outC : outAt ρ i (x :: xs) = (match ownd x, ρ[i]? with
    | false, _ => some x
    | true, some (some r) => if ownd r ∧ sat r = sat x then some r else none
    | true, _ => none).bind fun y => (outAt ρ (i + 1) xs).map (y :: ·) := rfl
@[simp] theorem e_seq : sSeq f g ρ = (f ρ).bind fun p => match p.1 with
  | .nx => g p.2
  | fl => some (fl, p.2) := rfl
@[simp] theorem e_next : sNext ρ = some (.nx, ρ) := rfl
@[simp] theorem e_expr : sExpr fa ρ = (fa ρ).map fun p => (.nx, p.2) := rfl
@[simp] theorem e_ret : sRet P fa ρ = (fa ρ).bind fun p => match p.1 with
  | .own r => some (.rt r, p.2)
  | .at i => if i < P then none else (res p.2 (.at i)).map fun r => (.rt r, p.2.set i none) := rfl
@[simp] theorem e_sif : sIf ta f g ρ = (ta ρ).bind fun p => if p.1 then f p.2 else g p.2 := rfl
@[simp] theorem e_set : sSet P i fa ρ = (fa ρ).bind fun p => match p.1 with
  | .own r => (setAt P i r p.2).map fun ρ2 => (.nx, ρ2)
  | .at _ => none := rfl
theorem ownAt_iff : ownAt ρ i ↔ ownB ρ i = true := by
  unfold ownAt ownB
  constructor
  · rintro ⟨r, h1, h2⟩; rw [h1]; exact h2
  · intro h
    split at h
    · next r q => exact ⟨r, q, h⟩
    · cases h
@[simp] theorem e_setAt {r : RV} : setAt P i r ρ = if i < ρ.length ∧ ¬ (i < P ∧ ownB ρ i = true) then some (ρ.set i (some r)) else none := by
  unfold setAt
  by_cases h : i < ρ.length ∧ ¬ (i < P ∧ ownAt ρ i)
  · rw [if_pos h, if_pos (by rw [← ownAt_iff]; exact h)]
  · rw [if_neg h, if_neg (by rw [← ownAt_iff]; exact h)]
@[simp] theorem e_ownB : ownB ρ i = match ρ[i]? with
  | some (some r) => ownd r
  | _ => false := rfl
@[simp] theorem e_satL {l : List D} : sat (.L l) = none := rfl
@[simp] theorem e_satK {l : List (Key × D)} : sat (.K l) = none := rfl
@[simp] theorem e_satS {l m : List D} {a : Addr} : sat (.S l a m) = some a := rfl
@[simp] theorem e_ownS {l m : List D} {a : Addr} : ownd (.S l a m) = true := rfl
@[simp] theorem e_ownp : ownd (.p d) = false := rfl
@[simp] theorem e_ownL {l : List D} : ownd (.L l) = true := rfl
@[simp] theorem e_ownK {l : List (Key × D)} : ownd (.K l) = true := rfl
@[simp] theorem e_f2 : f2 g2 fa fb ρ = (fa ρ).bind fun p => (fb p.2).bind fun q => (res q.2 p.1).bind fun x => (res q.2 q.1).bind fun y => (g2 x y).map fun r => (.own r, q.2) := rfl
@[simp] theorem e_f1 {g : RV → Option RV} : f1 g fa ρ = (fa ρ).bind fun p => (res p.2 p.1).bind fun x => (g x).map fun r => (.own r, p.2) := rfl
@[simp] theorem e_var : fVar i ρ = match ρ[i]? with
  | some (some (.p d)) => some (.own (.p d), ρ)
  | some (some _) => some (.at i, ρ)
  | _ => none := rfl
@[simp] theorem e_c : fC d ρ = some (.own (.p d), ρ) := rfl
@[simp] theorem e_neg {i : Int} : gNeg (.p (.int i)) = some (.p (.int (-i))) := rfl
@[simp] theorem e_resO : res ρ (.own x) = some x := rfl
@[simp] theorem e_resA : res ρ (.at i) = ρ[i]?.join := rfl
@[simp] theorem e_gI {C : Int → Int → Bool} {g : Int → Int → D} {i j : Int} : gI C g (.p (.int i)) (.p (.int j)) = if C i j then some (.p (g i j)) else none := rfl
@[simp] theorem e_gSub {i j : Int} : gSub (.p (.int i)) (.p (.int j)) = some (.p (.int (i - j))) := rfl
@[simp] theorem e_gMod {i j : Int} : gMod (.p (.int i)) (.p (.int j)) = if 0 < j then some (.p (.int (i % j))) else none := by simp [gMod]
@[simp] theorem e_gFdiv {i j : Int} : gFdiv (.p (.int i)) (.p (.int j)) = if 0 < j ∧ j < 1073741824 then some (.p (.int (i / j))) else none := by simp [gFdiv]
@[simp] theorem e_gPow {i j : Int} : gPow (.p (.int i)) (.p (.int j)) = if 0 ≤ j ∧ j ≤ 1000000 ∧ i.natAbs < 2 ^ 64 then some (.p (.int (i ^ j.toNat))) else none := by simp [gPow]
@[simp] theorem e_gLt {i j : Int} : gLt (.p (.int i)) (.p (.int j)) = some (.p (.bl (decide (i < j)))) := rfl
@[simp] theorem e_gGt {i j : Int} : gGt (.p (.int i)) (.p (.int j)) = some (.p (.bl (decide (j < i)))) := rfl
@[simp] theorem e_gGe {i j : Int} : gGe (.p (.int i)) (.p (.int j)) = some (.p (.bl (decide (j ≤ i)))) := rfl
@[simp] theorem e_addI {i j : Int} : gAdd (.p (.int i)) (.p (.int j)) = some (.p (.int (i + j))) := rfl
@[simp] theorem e_addS {i j : Str} : gAdd (.p (.str i)) (.p (.str j)) = if i.length + j.length ≤ sizeLine then some (.p (.str (i ++ j))) else none := rfl
@[simp] theorem e_addLL {l m : List D} : gAdd (.L l) (.L m) = if l.length + m.length ≤ sizeLine then some (.L (l ++ m)) else none := by simp [gAdd, itemsL]
@[simp] theorem e_addLp {l m : List D} : gAdd (.L l) (.p (.lst m)) = if l.length + m.length ≤ sizeLine then some (.L (l ++ m)) else none := by simp [gAdd, itemsL]
@[simp] theorem e_mulI {i j : Int} : gMulS (.p (.int i)) (.p (.int j)) = if mulOk i j then some (.p (.int (i * j))) else none := rfl
@[simp] theorem e_mulS {i : Str} {j : Int} : gMulS (.p (.str i)) (.p (.int j)) = if mulLen i j then some (.p (.str (Txt.mul i j))) else none := rfl
@[simp] theorem e_ixS {z : Str} {i : Int} : gIx (.p (.str z)) (.p (.int i)) = if z.length ≤ sizeLine then (atI z.cps.toList i).map fun c => .p (.str ⟨#[c]⟩) else none := rfl
@[simp] theorem e_ixT {l : List D} {i : Int} : gIx (.p (.tup l)) (.p (.int i)) = (atI l i).map .p := rfl
@[simp] theorem e_ixl {l : List D} {i : Int} : gIx (.p (.lst l)) (.p (.int i)) = (atI l i).map .p := rfl
@[simp] theorem e_ixL {l : List D} {i : Int} : gIx (.L l) (.p (.int i)) = (atI l i).map .p := rfl
@[simp] theorem e_tup : fTupF P ga ρ = (ga ρ).bind fun p => (frzL P p.1 p.2).bind fun q => if q.1.length ≤ sizeLine then some (.own (.p (.tup q.1)), q.2) else none := rfl
@[simp] theorem e_frzN : frzL P [] ρ = some ([], ρ) := rfl
@[simp] theorem e_frzp : frzL P (.own (.p d) :: rs) ρ = (frzL P rs ρ).map fun q => (d :: q.1, q.2) := rfl
@[simp] theorem e_frzL {l : List D} : frzL P (.own (.L l) :: rs) ρ = (frzL P rs ρ).map fun q => (.lst l :: q.1, q.2) := rfl
@[simp] theorem e_frzA : frzL P (.at i :: rs) ρ = if i < P then none else (slotL ρ i).bind fun ds => (frzL P rs (ρ.set i (some (.p (.lst ds))))).map fun q => (.lst ds :: q.1, q.2) := rfl
@[simp] theorem e_slotL : slotL ρ i = match ρ[i]? with
  | some (some (.L ds)) => some ds
  | _ => none := rfl
@[simp] theorem e_lst : fLst ga ρ = (ga ρ).bind fun p => (resL p.2 p.1).bind fun xs => (pures xs).bind fun ds => if ds.length ≤ sizeLine then some (.own (.L ds), p.2) else none := rfl
@[simp] theorem e_puN : pures [] = some [] := rfl
@[simp] theorem e_puC : pures (.p d :: xs) = (pures xs).map (d :: ·) := rfl
@[simp] theorem e_nil : fNil ρ = some ([], ρ) := rfl
@[simp] theorem e_cons : fCons fa ga ρ = (fa ρ).bind fun p => (ga p.2).map fun q => (p.1 :: q.1, q.2) := rfl
@[simp] theorem e_resN : resL ρ [] = some [] := rfl
@[simp] theorem e_resC {r : RR} : resL ρ (r :: rs) = (res ρ r).bind fun x => (resL ρ rs).map (x :: ·) := rfl
@[simp] theorem e_call : fCall gl ga ρ = (ga ρ).bind fun p => (resL p.2 p.1).bind fun xs => (gl xs).map fun r => (.own r, p.2) := rfl
@[simp] theorem e_fn : fFn n F ga ρ = (ga ρ).bind fun p => if (ats p.1).Nodup then (resL p.2 p.1).bind fun xs => if xs.length = n then (F xs).map fun r => (.own r.1, putBack p.2 p.1 r.2) else none else none := rfl
@[simp] theorem e_atsN : ats [] = [] := rfl
@[simp] theorem e_atsA : ats (.at i :: rs) = i :: ats rs := rfl
@[simp] theorem e_atsO : ats (.own x :: rs) = ats rs := rfl
@[simp] theorem e_pbN {ys : List RV} : putBack ρ [] ys = ρ := by cases ys <;> rfl
@[simp] theorem e_pbA {y : RV} {ys : List RV} : putBack ρ (.at i :: rs) (y :: ys) = putBack (ρ.set i (some y)) rs ys := rfl
@[simp] theorem e_pbO {y : RV} {ys : List RV} : putBack ρ (.own x :: rs) (y :: ys) = putBack ρ rs ys := rfl
@[simp] theorem e_T : fT fa ρ = (fa ρ).bind fun p => (res p.2 p.1).bind fun x => (tru x).map fun k => (k, p.2) := rfl
@[simp] theorem e_and : fAnd ta tb ρ = (ta ρ).bind fun p => if p.1 then tb p.2 else some (false, p.2) := rfl
@[simp] theorem e_or : fOr ta tb ρ = (ta ρ).bind fun p => if p.1 then some (true, p.2) else tb p.2 := rfl
@[simp] theorem e_not : fNot ta ρ = (ta ρ).map fun p => (!p.1, p.2) := rfl
@[simp] theorem e_truB {b : Bool} : tru (.p (.bl b)) = some b := rfl
@[simp] theorem e_truL {l : List D} : tru (.L l) = some (!l.isEmpty) := rfl
@[simp] theorem e_blOf {b : Bool} : blOf (.own (.p (.bl b))) = some b := rfl
@[simp] theorem e_isi {T : String} : fIsi T fa ρ = (fa ρ).bind fun p => (res p.2 p.1).bind fun x => ((tyD x).map fun t => RV.p (.bl (isTy T t))).map fun r => (.own r, p.2) := rfl
@[simp] theorem e_tyI {i : Int} : tyD (.p (.int i)) = some "int" := rfl
@[simp] theorem e_tyN : tyD (.p .non) = some "NoneType" := rfl
@[simp] theorem e_tyB {b : Bool} : tyD (.p (.bl b)) = some "bool" := rfl
@[simp] theorem e_tyS {b : Str} : tyD (.p (.str b)) = some "str" := rfl
@[simp] theorem e_tyT {b : List D} : tyD (.p (.tup b)) = some "tuple" := rfl
@[simp] theorem e_tyl {b : List D} : tyD (.p (.lst b)) = some "list" := rfl
@[simp] theorem e_tyL {b : List D} : tyD (.L b) = some "list" := rfl
@[simp] theorem e_gEqN {neg : Bool} : gEqN neg x y = (toD x).bind fun d => (toD y).bind fun e => if okD d && okD e then some (.p (.bl (neg ^^ eqD d e))) else none := rfl
@[simp] theorem e_toDp : toD (.p d) = some d := rfl
@[simp] theorem e_toDL {l : List D} : toD (.L l) = some (.lst l) := rfl
@[simp] theorem e_okI {i : Int} : okD (.int i) = true := by simp [okD, toPy, PyData.canLay0, PyData.depth]
@[simp] theorem e_okN : okD .non = true := by simp [okD, toPy, PyData.canLay0, PyData.depth]
@[simp] theorem e_okB {i : Bool} : okD (.bl i) = true := by simp [okD, toPy, PyData.canLay0, PyData.depth]
@[simp] theorem e_okS {i : Str} : okD (.str i) = PyData.strOk i := by simp [okD, toPy, PyData.canLay0, PyData.depth]
@[simp] theorem e_eqI {i j : Int} : eqD (.int i) (.int j) = decide (i = j) := by simp [eqD, toPy, PyData.eqv, Bool.beq_eq_decide_eq]
@[simp] theorem e_eqS {i j : Str} : eqD (.str i) (.str j) = decide (i = j) := by simp [eqD, toPy, PyData.eqv, Bool.beq_eq_decide_eq]
@[simp] theorem e_len {l : List D} : gLen [.L l] = some (.p (.int l.length)) := rfl
@[simp] theorem e_lenl {l : List D} : gLen [.p (.lst l)] = some (.p (.int l.length)) := rfl
@[simp] theorem e_lenT {l : List D} : gLen [.p (.tup l)] = some (.p (.int l.length)) := rfl
@[simp] theorem e_list {l : List D} : gListOf [.L l] = some (.L l) := rfl
@[simp] theorem e_lm : fLm gm fa ga ρ = (fa ρ).bind fun p => match p.1 with
  | .at i => (slotL p.2 i).bind fun _ => (ga p.2).bind fun q => (slotL q.2 i).bind fun ds => (resL q.2 q.1).bind fun xs => (gm ds xs).map fun r => (.own (.p r.2), q.2.set i (some (.L r.1)))
  | _ => none := rfl
@[simp] theorem e_app {l : List D} : gAppend l [.p d] = if l.length < sizeLine then some (l ++ [d], .non) else none := rfl
@[simp] theorem e_pop {l : List D} : gPop l [] = (l[l.length - 1]?).map fun d => (l.dropLast, d) := rfl
@[simp] theorem e_ext {l m : List D} : gExtend l [.L m] = if l.length + m.length ≤ sizeLine then some (l ++ m, .non) else none := rfl
@[simp] theorem e_setL {fo fi : FE} : sSetL fa fo fi ρ = (fa ρ).bind fun p => match p.1 with
  | .own (.p d) => (fo p.2).bind fun q => match q.1 with
    | .at i => (fi q.2).bind fun t => match t.1 with
      | .own (.p (.int k)) => (slotL t.2 i).bind fun ds => (ixN ds.length k).map fun j => (.nx, t.2.set i (some (.L (ds.set j d))))
      | _ => none
    | _ => none
  | _ => none := rfl
@[simp] theorem e_asg {asg : FG} : sAsg fa asg ρ = (fa ρ).bind fun p => match p.1 with
  | .own (.p d) => (asg d p.2).map fun ρ2 => (.nx, ρ2)
  | _ => none := rfl
@[simp] theorem e_pair {a b : FG} {c e : D} : gPair a b (.tup [c, e]) ρ = (a c ρ).bind (b e) := rfl
@[simp] theorem e_gName : gName' P i d ρ = setAt P i (.p d) ρ := rfl
@[simp] theorem e_sl {l h : FO} : fSl fa l h ρ = (fa ρ).bind fun p => (l p.2).bind fun q => (h q.2).bind fun t => (res t.2 p.1).bind fun x => (gSl' x q.1 t.1).map fun r => (.own r, t.2) := rfl
@[simp] theorem e_foN : foN ρ = some (none, ρ) := rfl
@[simp] theorem e_foS : foS fa ρ = (fa ρ).bind fun p => match p.1 with
  | .own (.p (.int i)) => some (some i, p.2)
  | _ => none := rfl
@[simp] theorem e_slS {z : Str} {lo hi : Option Int} : gSl' (.p (.str z)) lo hi = if z.length ≤ sizeLine then some (.p (.str (Txt.slice z lo hi))) else none := rfl
@[simp] theorem e_lit : (2 : Nat) ≤ sizeLine := by decide
end
theorem forD_inv {asg : FG} {body : FS} (I : Nat → DS → Prop) : ∀ (ds : List D) (k : Nat) (ρ : DS), I k ρ →
    (∀ j d ρ, ds[j]? = some d → I (k + j) ρ → ∃ ρa ρb, asg d ρ = some ρa ∧ body ρa = some (.nx, ρb) ∧ I (k + j + 1) ρb) → ∃ ρ', forD asg body ds ρ = some (.nx, ρ') ∧ I (k + ds.length) ρ'
  | [], k, ρ, h, _ => ⟨ρ, rfl, h⟩
  | d :: ds, k, ρ, h, st => by
    obtain ⟨ρa, ρb, h1, h2, h3⟩ := st 0 d ρ rfl h
    obtain ⟨ρ', h4, h5⟩ := forD_inv I ds (k + 1) ρb h3 fun j d' ρ' hd hI => by
      obtain ⟨a, b, q1, q2, q3⟩ := st (j + 1) d' ρ' (by simpa using hd) (by rw [show k + (j + 1) = k + 1 + j by omega]; exact hI)
      exact ⟨a, b, q1, q2, by rw [show k + 1 + j + 1 = k + (j + 1) + 1 by omega]; exact q3⟩
    refine ⟨ρ', ?_, by rw [List.length_cons, show k + (ds.length + 1) = k + 1 + ds.length by omega]; exact h5⟩
    simp only [forD, h1, h2, Option.bind_some]
    exact h4
end L2.CF
namespace L2.CF
open PySem PySem.Spec
section
variable {P i n : Nat} {f g : FSX} {fs : FS} {fe ff fo : FE} {fx : FEX} {ga : FA} {ta : FT} {ρ : DS} {d : D} {x y : RV} {F : FFX} {xs : List RV} {rs : List RR} {c : Str} {kvs lvs : List (Key × D)} {j : FJ}
@[simp] theorem e_itK : itemsK (.K kvs) = some kvs := rfl
@[simp] theorem e_itd : itemsK (.p (.dct kvs)) = some kvs := rfl
@[simp] theorem e_itS {z : Str} : itemsK (.p (.str z)) = none := rfl
@[simp] theorem e_keyI {k : Int} : keyR (.p (.int k)) = some (.inl k) := rfl
@[simp] theorem e_keyS {k : Str} : keyR (.p (.str k)) = some (.inr k) := rfl
@[simp] theorem e_pure : pureR (.p d) = some d := rfl
@[simp] theorem e_dict0 : fDict0 ρ = some (.own (.K []), ρ) := rfl
@[simp] theorem e_putK : sPutK fo fe ff ρ = (ff ρ).bind fun p => (fo p.2).bind fun q => match q.1 with
  | .at i => (fe q.2).bind fun r => (slotK r.2 i).bind fun kvs => (res r.2 r.1).bind fun y => (keyR y).bind fun k => (res r.2 p.1).bind fun z => (pureR z).bind fun d => if kvs.length < 100000 then some (.nx, r.2.set i (some (.K (putD kvs k d)))) else none
  | _ => none := rfl
@[simp] theorem e_slotK : slotK ρ i = match ρ[i]? with
  | some (some (.K ds)) => some ds
  | _ => none := rfl
@[simp] theorem e_frzE {fe : FE} : frzE P i fe ρ = fe (icy P i ρ) := rfl
@[simp] theorem e_icy : icy P i ρ = if i < P then ρ else match ρ[i]? with
  | some (some r) => ρ.set i (some (.p (frzV r)))
  | _ => ρ := rfl
@[simp] theorem e_fzp : frzV (.p d) = d := rfl
@[simp] theorem e_fzL {l : List D} : frzV (.L l) = .lst l := rfl
@[simp] theorem e_fzK : frzV (.K kvs) = .dct kvs := rfl
@[simp] theorem e_lstO : fLstO ga ρ = (ga ρ).bind fun p => (frzO p.1).bind fun ds => if ds.length ≤ sizeLine then some (.own (.L ds), p.2) else none := rfl
@[simp] theorem e_fzN : frzO [] = some [] := rfl
@[simp] theorem e_fzC : frzO (.own x :: rs) = (frzO rs).map (frzV x :: ·) := rfl
@[simp] theorem e_intI {k : Int} : gIntOf [.p (.int k)] = some (.p (.int k)) := rfl
@[simp] theorem e_intB {k : Bool} : gIntOf [.p (.bl k)] = some (.p (.int (if k then 1 else 0))) := rfl
end
@[simp] theorem ofs_inj {s t : String} : (Str.ofString s = Str.ofString t) ↔ (s = t) := by
  refine ⟨fun h => ?_, fun h => by rw [h]⟩
  rw [Str.ofString_eq_toList, Str.ofString_eq_toList] at h
  have h1 : (s.toList.map Char.toNat).toArray = (t.toList.map Char.toNat).toArray := congrArg Str.cps h
  have h2 : s.toList.map Char.toNat = t.toList.map Char.toNat := by simpa using h1
  have h3 : s.toList = t.toList := (List.map_inj_right (fun x y e => Char.ext (UInt32.toNat_inj.mp e))).mp h2
  exact String.toList_inj.mp h3
end L2.CF
namespace L2.CF
open PySem PySem.Spec
section
variable {P i n L : Nat} {f g : FSX} {fs : FS} {fe ff fo fk fv : FE} {ρ : DS} {d : D} {x y : RV} {c c0 : Str} {b : Bool} {kvs lvs : List (Key × D)} {mt : Str → Option Bool} {fp : FP}
@[simp] theorem e_yes : fYes ρ = some (true, ρ) := rfl
@[simp] theorem e_compN {ft : FT} : compD ft fe n [] ρ = some ([], ρ) := rfl
@[simp] theorem e_compC {ft : FT} {ds : List D} : compD ft fe n (d :: ds) ρ = (ft (ρ ++ [some (.p d)])).bind fun p => if p.1 then (fe p.2).bind fun q => match q.1 with
      | .own r => (compD ft fe n ds (q.2.take n)).map fun z => (frzV r :: z.1, z.2)
      | .at _ => none
    else compD ft fe n ds (p.2.take n) := rfl
end
end L2.CF
namespace L2.CF
open PySem PySem.Spec
section
variable {P i n : Nat} {fo fe : FE} {fa : FA} {ρ : DS} {d : D} {x y : RV} {T : String} {g : GRm} {ys : List Str} {ds : List D} {kvs : List (Key × D)} {f : FG} {r : FGs}
@[simp] theorem e_joinR {sep : Str} {l : List D} : gJoin (.p (.str sep)) [.L l] = (strsD l).bind fun ys => if (ys.map Str.length).sum + ys.length * sep.length ≤ 16777216 then some (.p (.str (Txt.join sep ys))) else none := rfl
@[simp] theorem e_strsN : strsD [] = some [] := rfl
@[simp] theorem e_strsC {z : Str} {l : List D} : strsD (.str z :: l) = (strsD l).map (z :: ·) := rfl
@[simp] theorem e_strsM : ∀ {l : List Str}, strsD (l.map D.str) = some l
  | [] => rfl
  | z :: l => by rw [List.map_cons, e_strsC, e_strsM]; rfl
@[simp] theorem e_dix : fDIx fo fe ρ = (fo ρ).bind fun p => (fe p.2).bind fun q => (res q.2 p.1).bind fun x => (itemsK x).bind fun kvs => (res q.2 q.1).bind fun y => (keyR y).bind fun k => (valK kvs k).map fun d => (.own (.p d), q.2) := rfl
@[simp] theorem e_popAt {k : Int} : gPopAt ds [.p (.int k)] = if 0 ≤ k ∧ k < 100000 then (ds[k.toNat]?).map fun d => (ds.eraseIdx k.toNat, d) else none := rfl
@[simp] theorem e_tupL : gTupOf [.L ds] = some (.p (.tup ds)) := rfl
@[simp] theorem e_tupl : gTupOf [.p (.lst ds)] = some (.p (.tup ds)) := rfl
@[simp] theorem e_tupT : gTupOf [.p (.tup ds)] = some (.p (.tup ds)) := rfl
end
end L2.CF
namespace L2.CF
open PySem PySem.Spec PyProof.Rows
variable {K : PySem.W.Frag}
theorem Rep.wr {P : Nat} {G H : Hp} {σ : St} {ρ : DS} {A : Ft} {i : Nat} {r r' : RV} {v : V} {a : Addr} {o' : HO} (R : Rep K G H σ ρ A) (hi : ρ[i]? = some (some r)) (hv : σ[i]? = some (some v)) (ha : a ∈ A i) (hr : RepV K G (upd H a o') v r' (A i)) (ow : ownd r' = ownd r) :
    Rep K G (upd H a o') σ (ρ.set i (some r')) A ∧ Evo G H A G (upd H a o') A ∧ Kp P ρ (ρ.set i (some r')) := by
  have hl : i < ρ.length := (List.getElem?_eq_some_iff.mp hi).1
  have ne : ∀ j, j ≠ i → a ∉ A j := fun j hj hm => hj (R.disj j i a hm ha)
  have hg : G a = none := R.gfree ha
  refine ⟨⟨fun b o q => ?_, by rw [List.length_set]; exact R.len, fun j q hj => ?_, fun j hj => ?_, R.disj⟩, ⟨Le.refl G, fun b o q => .inl q, fun b o q n => ?_, fun j b hb => .inr ⟨j, hb⟩⟩, by rw [List.length_set], fun j => ⟨fun r0 hr0 => ?_, fun hr0 => ?_⟩⟩
  · rw [upd_ne (fun e => by subst e; rw [hg] at q; cases q)]
    exact R.imm b o q
  · by_cases e : i = j
    · subst e
      rw [List.getElem?_set_self hl] at hj
      cases hj
      exact ⟨v, hv, hr⟩
    · rw [List.getElem?_set_ne e] at hj
      obtain ⟨w, g1, g2⟩ := R.slot j q hj
      refine ⟨w, g1, g2.stay (Le.refl G) (fun b hb o q => ?_) fun b hb => g2.gfree hb⟩
      rw [upd_ne (fun e' => by subst e'; exact ne j (Ne.symm e) hb)]
      exact q
  · refine R.emp j fun r hr => ?_
    by_cases e : i = j
    · subst e; exact hj _ (List.getElem?_set_self hl)
    · exact hj r (by rw [List.getElem?_set_ne e]; exact hr)
  · rw [upd_ne (fun e => by subst e; exact n i ha)]
    exact q
  · by_cases e : i = j
    · subst e
      rw [hi] at hr0; cases hr0
      exact ⟨_, List.getElem?_set_self hl, fun _ => ow⟩
    · exact ⟨r0, by rw [List.getElem?_set_ne e]; exact hr0, fun _ => rfl⟩
  · by_cases e : i = j
    · subst e; rw [hi] at hr0; cases hr0
    · rw [List.getElem?_set_ne e]; exact hr0
def slotS (ρ : DS) (i : Nat) : Option (List D × Addr × List D) := match ρ[i]? with
  | some (some (.S ds a ms)) => some (ds, a, ms)
  | _ => none
theorem slotS_of {ρ : DS} {i : Nat} {ds ms : List D} {a : Addr} (h : slotS ρ i = some (ds, a, ms)) : ρ[i]? = some (some (.S ds a ms)) := by
  unfold slotS at h
  split at h
  · next q => cases h; exact q
  · cases h
section
variable {X : Cx} {o e : Expr} {es : List Expr} {fo fe fi fb : FE} {fa : FA} {name : Str} {apos cpos pos : Pos} {id : String} {g : GLm} {P : Nat}
def sSetS (fe fo fi : FE) : FS := fun ρ => (fe ρ).bind fun p => match p.1 with
  | .own (.p d) => (fo p.2).bind fun q => match q.1 with
    | .at i => (fi q.2).bind fun t => match t.1 with
      | .own (.p (.int k)) => (slotS t.2 i).bind fun z => (ixN z.1.length k).map fun j => (.nx, t.2.set i (some (.S (z.1.set j d) z.2.1 z.2.2)))
      | _ => none
    | _ => none
  | _ => none
theorem ds_setS (he : DE X e fe) {ix : Expr} {pt : Pos} (ho : DE X o fo) (hi : DE X ix fi) [k1 : KpE P fe] [k2 : KpE P fo] [k3 : KpE P fi] (hs : swapsWithSole [.Subscript o ix pt] e pos.line X.env = pure false := by rfl) (hw : swappedStores [.Subscript o ix pt] e X.env = pure none := by rfl)
    (h1 : (assignEach [.Subscript o ix pt] X.env).map (·.2) = [assign (.Subscript o ix pt) X.env] := by rfl)
    (ha : ∀ v, assign (.Subscript o ix pt) X.env v = (do
      let ov ← holding [v] (eval o X.env)
      let iv ← holding [v, ov] (eval ix X.env)
      standAt pt
      holding [v, ov, iv] (setItem ov iv v)
      release [v, ov, iv] []) := by intro _; rfl) : DSt P X (.Assign [.Subscript o ix pt] e pos) (sSetS fe fo fi) := by
  intro ρ fl ρ' hf
  unfold sSetS at hf
  obtain ⟨⟨ra, ρ1⟩, e1, hf⟩ := obi hf
  match ra, e1, hf with
  | .own (.p d), e1, hf =>
    obtain ⟨⟨rb, ρ2⟩, e2, hf⟩ := obi hf
    match rb, e2, hf with
    | .at i, e2, hf =>
      obtain ⟨⟨rc, ρ3⟩, e3, hf⟩ := obi hf
      match rc, e3, hf with
      | .own (.p (.int k)), e3, hf =>
        obtain ⟨⟨ds, sa, ms⟩, e4, hf⟩ := obi hf
        obtain ⟨j, e5, hf⟩ := omi hf
        cases hf
        refine PS.imp (ps_asg (he _ _ _ e1) (pg_sub (ho _ _ _ e2) (hi _ _ _ e3) set_list ha) hs hw h1) fun D σ H ⟨G, A, R, kk⟩ => ?_
        refine ⟨G, A, R, fun v G1 H1 A1 S1 v1 R1 q1 f1 => ⟨G1, A1, R1, fun vo G2 H2 A2 S2 v2 R2 q2 f2 => ⟨G2, A2, R2, fun vi G3 H3 A3 S3 v3 R3 q3 f3 => ?_⟩⟩⟩
        obtain ⟨_, hv⟩ := q2
        obtain ⟨u, hu, b, us, ws, rfl, hS, g1, g2, g3, g4, g5, g6, g7⟩ := R3.slot i _ (slotS_of e4)
        rw [hv] at hu
        cases hu
        obtain ⟨_, pd⟩ := q1.1
        have pd' : Pu X.K G3 v d := pd.mono (v2.trans v3).le
        obtain ⟨R4, v4, k4⟩ := R3.wr (P := P) (o' := .lst (us.set j v)) (r' := .S (ds.set j d) sa ms) (slotS_of e4) hv (a := b) (by rw [hS]; simp) ⟨b, _, ws, rfl, hS, upd_same, g2, g3.set pd' j, by rw [upd_ne g7]; exact g4, g5, g6, g7⟩ rfl
        refine ⟨b, us, k, j, rfl, pu_int q3.1, g1, by rw [g3.length]; exact e5, ?_⟩
        exact kk σ G3 _ A3 (((v1.trans v2).trans v3).trans v4) R4 ((((k1.kp _ _ _ e1).trans (k2.kp _ _ _ e2)).trans (k3.kp _ _ _ e3)).trans k4).pin
def fLmS (g : GLm) (j : Nat) (fo : FE) : FE := fun ρ => (fo ρ).bind fun p => match p.1 with
  | .own (.p (.ptr a)) => (slotS p.2 j).bind fun z => if z.2.1 = a then (g z.2.2 []).map fun r => (.own (.p r.2), p.2.set j (some (.S z.1 a r.1))) else none
  | _ => none
theorem fLmS_inv {j : Nat} {ρ ρ' : DS} {rr : RR} (h : fLmS g j fo ρ = some (rr, ρ')) : ∃ a ρ1 ds ms ms' d, fo ρ = some (.own (.p (.ptr a)), ρ1) ∧ slotS ρ1 j = some (ds, a, ms) ∧ g ms [] = some (ms', d) ∧ rr = .own (.p d) ∧ ρ' = ρ1.set j (some (.S ds a ms')) := by
  unfold fLmS at h
  obtain ⟨⟨ra, ρ1⟩, h1, h⟩ := obi h
  cases ra with
  | «at» _ => cases h
  | own r =>
    cases r with
    | p d0 =>
      cases d0 with
      | ptr a =>
        obtain ⟨⟨ds, a', ms⟩, h2, h⟩ := obi h
        split at h
        · next hz =>
          obtain ⟨⟨ms', d⟩, h3, h⟩ := omi h
          cases h
          have hz' : a' = a := hz
          subst hz'
          exact ⟨a', ρ1, ds, ms, ms', d, h1, h2, h3, rfl, rfl⟩
        · cases h
      | _ => cases h
    | _ => cases h
theorem pu_ptr {G : Hp} {v : V} {a : Addr} (h : Pu K G v (.ptr a)) : v = .ref a := by cases h; rfl
theorem de_lmS {j : Nat} (slot : Slot "list" name id) (hty : typeOf (.builtin id) = pure (.type "method_descriptor")) (hm : LmD X id g) (ho : DE X o fo)
    (hbase : attributeBase o name X.env (eval o X.env) = eval o X.env := by rfl) (hline : (apos.endLine == cpos.line) = true := by rfl) : DE X (.Call (.Attribute o name apos) [] [] cpos) (fLmS g j fo) := by
  intro ρ rr ρ' hf
  obtain ⟨a, ρ1, ds, ms, ms', d, h1, h2, h3, rfl, rfl⟩ := fLmS_inv hf
  refine PE.imp (pe_bm0 PySem.F.plainAttrs_list slot hty (hm _ _ _ _ h3) (ho _ _ _ h1) hbase hline) fun σ H Q ⟨G, A, R, k⟩ => ?_
  refine ⟨G, A, R, fun v G1 H1 A1 S e1 R1 q1 f1 => ?_⟩
  obtain rfl := pu_ptr q1.1.2
  obtain ⟨u, hu, b, us, ws, rfl, hS, g1, g2, g3, g4, g5, g6, g7⟩ := R1.slot j _ (slotS_of h2)
  refine ⟨.inl ⟨rfl, _, SqL.of g4⟩, G1, a, ws, R1.imm, rfl, g4, g5, g6, trivial, fun w us' z hw => ?_⟩
  obtain ⟨R3, e3, _⟩ := R1.wr (P := 0) (o' := .lst us') (r' := .S ds a ms') (slotS_of h2) hu (a := a) (by rw [hS]; simp) ⟨b, _, us', rfl, hS, by rw [upd_ne (Ne.symm g7)]; exact g1, g2, g3, upd_same, g5, z, g7⟩ rfl
  exact k w G1 _ A1 [] (e1.trans e3) R3 ⟨⟨rfl, hw⟩, by simp⟩ (by simp)
theorem kp_set {P : Nat} {ρ : DS} {i : Nat} {r r' : RV} (hi : ρ[i]? = some (some r)) (ow : ownd r' = ownd r) : Kp P ρ (ρ.set i (some r')) := by
  have hl : i < ρ.length := (List.getElem?_eq_some_iff.mp hi).1
  refine ⟨by rw [List.length_set], fun j => ⟨fun r0 hr0 => ?_, fun hr0 => ?_⟩⟩
  · by_cases e : i = j
    · subst e
      rw [hi] at hr0; cases hr0
      exact ⟨_, List.getElem?_set_self hl, fun _ => ow⟩
    · exact ⟨r0, by rw [List.getElem?_set_ne e]; exact hr0, fun _ => rfl⟩
  · by_cases e : i = j
    · subst e; rw [hi] at hr0; cases hr0
    · rw [List.getElem?_set_ne e]; exact hr0
instance {j : Nat} [ho : KpE P fo] : KpE P (fLmS g j fo) := ⟨fun ρ rr ρ' h => by
  obtain ⟨a, ρ1, ds, ms, ms', d, h1, h2, h3, rfl, rfl⟩ := fLmS_inv h
  exact (ho.kp _ _ _ h1).trans (kp_set (slotS_of h2) rfl)⟩
def fCmpS (g : G2) (j : Nat) (fo fb : FE) : FE := fun ρ => (fo ρ).bind fun p => match p.1 with
  | .own (.p (.ptr a)) => (fb p.2).bind fun q => (slotS q.2 j).bind fun z => if z.2.1 = a then (res q.2 q.1).bind fun y => (g (.L z.2.2) y).map fun r => (.own r, q.2) else none
  | _ => none
theorem fCmpS_inv {g : G2} {j : Nat} {ρ ρ' : DS} {rr : RR} (h : fCmpS g j fo fb ρ = some (rr, ρ')) : ∃ a ρ1 rb ds ms y r, fo ρ = some (.own (.p (.ptr a)), ρ1) ∧ fb ρ1 = some (rb, ρ') ∧ slotS ρ' j = some (ds, a, ms) ∧ res ρ' rb = some y ∧ g (.L ms) y = some r ∧ rr = .own r := by
  unfold fCmpS at h
  obtain ⟨⟨ra, ρ1⟩, h1, h⟩ := obi h
  cases ra with
  | «at» _ => cases h
  | own r0 =>
    cases r0 with
    | p d0 =>
      cases d0 with
      | ptr a =>
        obtain ⟨⟨rb, ρ2⟩, h2, h⟩ := obi h
        obtain ⟨⟨ds, a', ms⟩, h3, h⟩ := obi h
        split at h
        · next hz =>
          obtain ⟨y, h4, h⟩ := obi h
          obtain ⟨r, h5, h⟩ := omi h
          cases h
          have hz' : a' = a := hz
          subst hz'
          exact ⟨a', ρ1, rb, ds, ms, y, r, h1, h2, h3, h4, h5, rfl⟩
        · cases h
      | _ => cases h
    | _ => cases h
theorem dt_cmpS {op : CmpOp} {g : G2} {j : Nat} {a b : Expr} (hO : OpD X (compareOp op) g) (hg : ∀ x y r, g x y = some r → ∃ k, r = .p (.bl k)) (ha : DE X a fo) (hb : DE X b fb) (hm : behindInMarks op b = false := by first | exact nomark _ | with_unfolding_all rfl) :
    DT X (.Compare a [op] [b] pos) (fT (fCmpS g j fo fb)) := by
  intro ρ k ρ' hf
  obtain ⟨rr, z, h1, h2, h3⟩ := fT_inv hf
  obtain ⟨sa, ρ1, rb, ds, ms, y, r, g1, g2, g3, g4, g5, rfl⟩ := fCmpS_inv h1
  obtain ⟨k', rfl⟩ := hg _ y r g5
  cases h2
  cases h3
  refine PT.imp (pt_cmpR (hO _ y _ g5) (ha _ _ _ g1) (hb _ _ _ g2) hm) fun σ H Q ⟨G, A, R, q⟩ => ?_
  refine ⟨G, A, R, fun v1 G1 H1 A1 S1 e1 R1 q1 f1 => ⟨G1, A1, R1, fun v2 G2 H2 A2 S2 e2 R2 q2 f2 => ?_⟩⟩
  obtain rfl := pu_ptr q1.1.2
  obtain ⟨u, hu, b', us, ws, rfl, hS, c1, c2, c3, c4, c5, c6, c7⟩ := R2.slot j _ (slotS_of g3)
  obtain ⟨Sy, hy⟩ := res_of R2 q2 g4
  refine ⟨G2, [sa], Sy, R2.imm, ⟨sa, ws, rfl, rfl, c4, c5, c6⟩, hy, fun v G3 H3 S al hr fr => ?_⟩
  obtain ⟨_, hr⟩ := hr
  cases hr
  exact ⟨_, rfl, q G3 H3 A2 ((e1.trans e2).trans al.evo) (al.rep R2)⟩
instance {g : G2} {j : Nat} [ho : KpE P fo] [hb : KpE P fb] : KpE P (fCmpS g j fo fb) := ⟨fun ρ rr ρ' h => by
  obtain ⟨a, ρ1, rb, ds, ms, y, r, h1, h2, h3, h4, h5, rfl⟩ := fCmpS_inv h
  exact (ho.kp _ _ _ h1).trans (hb.kp _ _ _ h2)⟩
end
end L2.CF
namespace L2.CF
open PySem PySem.Spec PyProof.Rows
variable {K : PySem.W.Frag}
open Classical in
noncomputable def sAny (f : Addr → Option (FL × DS)) : Option (FL × DS) := if h : ∃ r, ∀ a, f a = some r then some h.choose else none
theorem sAny_inv {f : Addr → Option (FL × DS)} {r : FL × DS} (h : sAny f = some r) (a : Addr) : f a = some r := by
  unfold sAny at h
  split at h
  · next q => cases h; exact q.choose_spec a
  · cases h
theorem sAny_eq {f : Addr → Option (FL × DS)} {r : FL × DS} (h : ∀ a, f a = some r) : sAny f = some r := by
  have q : ∃ r, ∀ a, f a = some r := ⟨r, h⟩
  unfold sAny
  rw [dif_pos q]
  have z := q.choose_spec (0 : Nat)
  rw [h] at z
  exact z.symm
def unal (jm js : Nat) : FL × DS → Option (FL × DS) := fun q => match q.1, q.2[jm]?, q.2[js]? with
  | .nx, some (some (.p (.ptr a'))), some (some (.S _ a ms)) => if a' = a then some (.nx, (q.2.set jm (some (.L ms))).set js (some (.p .any))) else none
  | _, _, _ => none
noncomputable def sAlias (P jm jh js : Nat) (f0 : FE) (g : FS) : FS := fun ρ => (f0 ρ).bind fun p => match p.1 with
  | .own (.p d0) => match p.2[jm]?, p.2[jh]? with
    | some (some (.L ms)), some (some (.p hd)) => if P ≤ jm ∧ P ≤ js ∧ jm ≠ js ∧ jh ≠ js ∧ js < p.2.length then sAny fun a => (g ((p.2.set jm (some (.p (.ptr a)))).set js (some (.S [d0, .ptr a, hd] a ms)))).bind (unal jm js) else none
    | _, _ => none
  | _ => none
theorem unal_inv {jm js : Nat} {fl fl' : FL} {ρ ρ' : DS} (h : unal jm js (fl, ρ) = some (fl', ρ')) : fl = .nx ∧ fl' = .nx ∧ ∃ a xs ms, ρ[jm]? = some (some (.p (.ptr a))) ∧ ρ[js]? = some (some (.S xs a ms)) ∧ ρ' = (ρ.set jm (some (.L ms))).set js (some (.p .any)) := by
  unfold unal at h
  split at h
  · next a' xs a ms h1 h2 h3 =>
    split at h
    · next e =>
      subst e
      cases h
      exact ⟨h1, rfl, a', xs, ms, h2, h3, rfl⟩
    · cases h
  · cases h
theorem Rep.unal {P : Nat} {G H : Hp} {σ : St} {ρ : DS} {A : Ft} {jm js : Nat} {a : Addr} {xs ms : List D} (R : Rep K G H σ ρ A) (h1 : ρ[jm]? = some (some (.p (.ptr a)))) (h2 : ρ[js]? = some (some (.S xs a ms))) (pm : P ≤ jm) (pj : P ≤ js) :
    ∃ A', Rep K G H σ ((ρ.set jm (some (.L ms))).set js (some (.p .any))) A' ∧ Evo G H A G H A' ∧ Pin P ρ σ ((ρ.set jm (some (.L ms))).set js (some (.p .any))) σ := by
  have ne : jm ≠ js := fun e => by subst e; rw [h1] at h2; cases h2
  have hlm : jm < ρ.length := (List.getElem?_eq_some_iff.mp h1).1
  have hls : js < ρ.length := (List.getElem?_eq_some_iff.mp h2).1
  obtain ⟨v1, hv1, _, hp⟩ := R.slot jm _ h1
  obtain rfl := pu_ptr hp
  obtain ⟨v2, hv2, b, vs, ws, rfl, hS, g1, g2, g3, g4, g5, g6, g7⟩ := R.slot js _ h2
  have eS : ∀ j, j ≠ js → a ∉ A j := fun j hj hm => hj (R.disj j js a hm (by rw [hS]; simp))
  refine ⟨fun j => if j = jm then [a] else if j = js then [] else A j, ⟨R.imm, by simp only [List.length_set]; exact R.len, fun j q hj => ?_, fun j hj => ?_, fun i j c m1 m2 => ?_⟩, ⟨Le.refl G, fun b o q => .inl q, fun b o q n => q, fun j c hc => ?_⟩, ⟨fun i hi ⟨r, hr, ow⟩ => ⟨rfl, r, ?_, ow⟩, fun i r hr => ?_, fun i _ => rfl, by simp only [List.length_set]⟩⟩
  · by_cases e2 : js = j
    · subst e2
      rw [List.getElem?_set_self (by simpa using hls)] at hj
      cases hj
      refine ⟨_, hv2, ?_⟩
      simp only [if_neg (Ne.symm ne), if_true]
      exact ⟨rfl, .any⟩
    · rw [List.getElem?_set_ne e2] at hj
      by_cases e1 : jm = j
      · subst e1
        rw [List.getElem?_set_self hlm] at hj
        cases hj
        refine ⟨_, hv1, ?_⟩
        simp only [if_true]
        exact ⟨a, ws, rfl, rfl, g4, g5, g6⟩
      · rw [List.getElem?_set_ne e1] at hj
        obtain ⟨w, c1, c2⟩ := R.slot j q hj
        refine ⟨w, c1, ?_⟩
        simp only [if_neg (Ne.symm e1), if_neg (Ne.symm e2)]
        exact c2
  · by_cases e1 : j = jm
    · subst e1
      exact absurd (by rw [List.getElem?_set_ne (Ne.symm ne), List.getElem?_set_self hlm]) (hj (.L ms))
    · by_cases e2 : j = js
      · simp only [if_neg e1, if_pos e2]
      · simp only [if_neg e1, if_neg e2]
        refine R.emp j fun r hr => hj r ?_
        rw [List.getElem?_set_ne (Ne.symm e2), List.getElem?_set_ne (Ne.symm e1)]
        exact hr
  · have key : ∀ i, c ∈ (if i = jm then [a] else if i = js then [] else A i) → (i = jm ∧ c = a) ∨ (i ≠ jm ∧ i ≠ js ∧ c ∈ A i) := fun i m => by
      by_cases e1 : i = jm
      · rw [if_pos e1] at m; simp at m; exact .inl ⟨e1, m⟩
      · rw [if_neg e1] at m
        by_cases e2 : i = js
        · rw [if_pos e2] at m; simp at m
        · rw [if_neg e2] at m; exact .inr ⟨e1, e2, m⟩
    rcases key i m1 with ⟨r1, r2⟩ | ⟨r1, r2, r3⟩ <;> rcases key j m2 with ⟨s1, s2⟩ | ⟨s1, s2, s3⟩
    · rw [r1, s1]
    · subst r2; exact absurd s3 (eS j s2)
    · subst s2; exact absurd r3 (eS i r2)
    · exact R.disj i j c r3 s3
  · refine .inr ?_
    by_cases e1 : j = jm
    · rw [if_pos e1] at hc; simp at hc; subst hc; exact ⟨js, by rw [hS]; simp⟩
    · rw [if_neg e1] at hc
      by_cases e2 : j = js
      · rw [if_pos e2] at hc; simp at hc
      · rw [if_neg e2] at hc; exact ⟨j, hc⟩
  · rw [List.getElem?_set_ne (by omega), List.getElem?_set_ne (by omega)]
    exact hr
  · by_cases e2 : js = i
    · subst e2; exact ⟨_, List.getElem?_set_self (by simpa using hls)⟩
    · rw [List.getElem?_set_ne e2]
      by_cases e1 : jm = i
      · subst e1; exact ⟨_, List.getElem?_set_self hlm⟩
      · rw [List.getElem?_set_ne e1]; exact ⟨r, hr⟩
section
variable {X : Cx} {P : Nat} {rest : List Stmt} {g : FS} {e0 : Expr} {f0 : FE} {pos : Pos}
theorem ds_alias {jm jh js : Nat} {x m h : Str} {pos' pm ph pl : Pos} (hN : X.N.Nodup) (hi : X.N[js]? = some x) (hx : Loc X.env.scope x) (he : DE X e0 f0) [hk : KpE P f0] (hm : PE X (.Name m pm) (tVar jm)) (hh : PE X (.Name h ph) (tVar jh)) (hr : DSs P X rest g)
    (hst : starEach [e0, .Name m pm, .Name h ph] X.env = (false, eval e0 X.env) :: starEach [.Name m pm, .Name h ph] X.env := by rfl) (hst2 : starEach [.Name m pm, .Name h ph] X.env = (false, eval (.Name m pm) X.env) :: starEach [.Name h ph] X.env := by rfl) (hst3 : starEach [.Name h ph] X.env = (false, eval (.Name h ph) X.env) :: starEach [] X.env := by rfl)
    (hs : swapsWith (.List [e0, .Name m pm, .Name h ph] pl) (some (.Name x pos')) pos.line X.env = pure false := by rfl)
    (hf : X.fn x = true ∨ X.env.scope.names.lookup x = some .local := by first | exact .inl rfl | exact .inr rfl | assumption) :
    DSs P X (.Assign [.Name x pos'] (.List [e0, .Name m pm, .Name h ph] pl) pos :: rest) (sAlias P jm jh js f0 g) := by
  intro ρ fl ρ' hF
  unfold sAlias at hF
  obtain ⟨⟨r0, ρ1⟩, e1, hF⟩ := obi hF
  match r0, e1, hF with
  | .own (.p d0), e1, hF =>
    simp only at hF
    split at hF
    · next ms hd q1 q2 =>
      split at hF
      · next cond =>
        obtain ⟨c1, c2, c3, c4, c5⟩ := cond
        have hA := fun a => sAny_inv hF a
        have rest' : PSs X rest (fun D σ H => ∃ a fl1 ρ3, g ((ρ1.set jm (some (.p (.ptr a)))).set js (some (.S [d0, .ptr a, hd] a ms))) = some (fl1, ρ3) ∧ tDS X.K P ((ρ1.set jm (some (.p (.ptr a)))).set js (some (.S [d0, .ptr a, hd] a ms))) fl1 ρ3 D σ H) := by
          intro pins s σ H D I ⟨a, fl1, ρ3, hg, h⟩
          exact hr _ _ _ hg pins s σ H D I h
        have fls : fl = .nx := by
          obtain ⟨⟨f1, ρ3⟩, _, u⟩ := obi (hA 0)
          exact (unal_inv u).2.1
        subst fls
        refine PSs.imp (pss_cons (ps_set hN hi hx (pe_lst (pa_cons (he _ _ _ e1) (pa_cons hm (pa_cons hh pa_nil hst3) hst2) hst)) hs hf) rest') fun D σ H ⟨G, A, R, k⟩ => ?_
        refine ⟨G, A, R, fun v G1 H1 A1 S1 v1 R1 p1 f1 => ?_⟩
        obtain ⟨vm, hvm, am, wm, rfl, hSm, m1, m2, m3⟩ := R1.slot jm _ q1
        obtain ⟨vh, hvh, hSh, hph⟩ := R1.slot jh _ q2
        refine ⟨_, hvm, vh, hvh, (by show 3 ≤ sizeLine; decide), fun p hp => ?_⟩
        have al : Al G1 H1 G1 (upd H1 p (.lst [v, .ref am, vh])) := Al.own R1.imm hp
        have R2 := al.rep R1
        have gp : G1 p = none := g_none R1.imm hp
        have nep : am ≠ p := fun e => by subst e; rw [m1] at hp; cases hp
        obtain ⟨R3, P3⟩ := R2.store (P := P) (i := jm) (r := .p (.ptr am)) (v := .ref am) (S := []) (ρ' := ρ1.set jm (some (.p (.ptr am)))) (by unfold setAt; rw [if_pos ⟨(List.getElem?_eq_some_iff.mp q1).1, fun z => by omega⟩]) ⟨rfl, .ptr⟩ (by simp)
        have es : σ.set jm (some (.ref am)) = σ := by
          obtain ⟨hl, hz⟩ := List.getElem?_eq_some_iff.mp hvm
          rw [← hz]; exact List.set_getElem_self hl
        rw [es] at R3 P3
        have hrS : RepV X.K G1 (upd H1 p (.lst [v, .ref am, vh])) (.ref p) (.S [d0, .ptr am, hd] am ms) [p, am] :=
          ⟨p, _, wm, rfl, rfl, upd_same, gp, .cons p1.1.2 (.cons .ptr (.cons hph .nil)), by rw [upd_ne nep]; exact m1, m2, m3, nep⟩
        obtain ⟨R4, P4⟩ := R3.store (P := P) (i := js) (r := .S [d0, .ptr am, hd] am ms) (v := .ref p) (S := [p, am]) (ρ' := (ρ1.set jm (some (.p (.ptr am)))).set js (some (.S [d0, .ptr am, hd] am ms))) (by unfold setAt; rw [if_pos ⟨by rw [List.length_set]; exact c5, fun z => by omega⟩]) hrS (fun j c hc z => by
          simp only [List.mem_cons, List.not_mem_nil, or_false] at hc
          by_cases ej : j = jm
          · rw [if_pos ej] at z; simp at z
          · rw [if_neg ej] at z
            rcases hc with rfl | rfl
            · obtain ⟨o, ho⟩ := R1.there z
              rw [hp] at ho; cases ho
            · exact ej (R1.disj j jm _ z (by rw [hSm]; simp)))
        obtain ⟨⟨f2, ρ3⟩, hg, hu⟩ := obi (hA am)
        obtain ⟨rfl, _, a', xs, ms', u1, u2, u3⟩ := unal_inv hu
        refine ⟨am, .nx, ρ3, hg, G1, _, R4, fun σ' G' H' A' v4 R5 P5 => ?_⟩
        obtain ⟨A6, R6, v6, P6⟩ := R5.unal (P := P) u1 u2 c1 c2
        rw [← u3] at R6 P6
        have ev : Evo G1 H1 A1 G1 (upd H1 p (.lst [v, .ref am, vh])) (fun j => if j = js then [p, am] else if j = jm then [] else A1 j) := by
          refine ⟨Le.refl G1, fun b o q => .inl q, fun b o q n => al.leH b o q, fun j c hc => ?_⟩
          by_cases e1 : j = js
          · rw [if_pos e1] at hc
            simp only [List.mem_cons, List.not_mem_nil, or_false] at hc
            rcases hc with rfl | rfl
            · exact .inl hp
            · exact .inr ⟨jm, by rw [hSm]; simp⟩
          · rw [if_neg e1] at hc
            by_cases e2 : j = jm
            · rw [if_pos e2] at hc; simp at hc
            · rw [if_neg e2] at hc; exact .inr ⟨j, hc⟩
        exact k σ' G' H' A6 (((v1.trans ev).trans v4).trans v6) R6 (((((hk.kp _ _ _ e1).pin.trans P3).trans P4).trans P5).trans P6)
      · cases hF
    · cases hF
end
end L2.CF
namespace L2.CF
open PySem PySem.Spec PyProof.Rows
def ded (l : List Str) : List Str := l.foldl (fun acc x => if x ∈ acc then acc else acc ++ [x]) []
theorem ded_snoc (l : List Str) (x : Str) : ded (l ++ [x]) = if x ∈ ded l then ded l else ded l ++ [x] := by
  unfold ded
  rw [List.foldl_append]
  rfl
theorem snocRec {α : Type} {P : List α → Prop} (h0 : P []) (h1 : ∀ l x, P l → P (l ++ [x])) (l : List α) : P l := by
  have key : ∀ m : List α, P m.reverse := fun m => by
    induction m with
    | nil => exact h0
    | cons x m ih => rw [List.reverse_cons]; exact h1 _ x ih
  rw [← List.reverse_reverse l]
  exact key _
theorem ded_mem : ∀ (l : List Str) (x : Str), x ∈ ded l ↔ x ∈ l := by
  intro l
  induction l using snocRec with
  | h0 => intro x; exact Iff.rfl
  | h1 l y ih =>
    intro x
    rw [ded_snoc]
    split
    · next h =>
      rw [ih, List.mem_append, List.mem_singleton]
      rw [ih] at h
      exact ⟨.inl, fun q => q.elim id fun e => e ▸ h⟩
    · rw [List.mem_append, List.mem_append, ih]
theorem ded_len (l : List Str) (x : Str) : (ded (l ++ [x])).length = if x ∈ l then (ded l).length else (ded l).length + 1 := by
  rw [ded_snoc]
  by_cases h : x ∈ l
  · rw [if_pos ((ded_mem l x).mpr h), if_pos h]
  · rw [if_neg (fun q => h ((ded_mem l x).mp q)), if_neg h]
    simp
theorem ded_le : ∀ (l : List Str), (ded l).length ≤ l.length := by
  intro l
  induction l using snocRec with
  | h0 => exact Nat.le_refl _
  | h1 l y ih =>
    rw [ded_len, List.length_append, List.length_singleton]
    split <;> omega
theorem ded_nodup : ∀ {l : List Str}, l.Nodup → ded l = l := by
  intro l
  induction l using snocRec with
  | h0 => intro _; rfl
  | h1 l y ih =>
    intro h
    have h1 := (List.nodup_append.mp h).1
    have h2 : y ∉ l := fun q => (List.nodup_append.mp h).2.2 y q y (by simp) rfl
    rw [ded_snoc, if_neg (fun q => h2 ((ded_mem l y).mp q)), ih h1]
section
variable {prog : Program} {w : World} {A : Around} {s : Shared}
theorem set_loop {R : Result → Shared → Prop} {I ax Sa : Addr} {St : Nat → Heap → Prop} {items : Array Value} {ss : List Str} (W : Walks prog w A.in1 I [I, ax] [I] items.size (fun i v => items[i]? = some v) St) (hS1 : Sa ≠ I) (hSx : Sa ≠ ax) (hn : items.size = ss.length) (hv : ∀ (i : Nat) (v : Value), items[i]? = some v → ∃ t, v = Value.str (ss.getD i "") t) (hb : ss.length + 1 < scanBound) :
    ∀ (k i : Nat) (s : Shared), ss.length - i = k → i ≤ ss.length → St i s.heap → s.heap.SetOf (strKind prog w) Sa (fun x => decide (x ∈ ss.take i)) (ded (ss.take i)).length →
      (∀ h' tk, (∀ b o, b ≠ Sa → b ≠ I → s.heap.get? b = some o → h'.get? b = some o) → h'.SetOf (strKind prog w) Sa (fun x => decide (x ∈ ss)) (ded ss).length → R (.ok (.ret .none)) { s with heap := h', toks := tk }) →
      codeAny (model prog w) A (.builtin "set.update.loop" ⟨[.ref Sa, .ref I], []⟩) R s := by
  intro k
  induction k with
  | zero =>
    intro i s hk hi hst hS hR
    obtain rfl : i = ss.length := by omega
    refine codeAny_builtin PyProof.Rows.F.entry_set_update_loop (by
      rw [Around.under_plainId PyProof.Rows.F.plain_set_update_loop _]
      refine wpAny_bind (W.done s _ _ (hn ▸ hst) fun h' tk kp => ?_)
      refine wpAny_pure (hR h' tk (fun b o _ b2 e => kp b o (by simpa using b2) e) ?_)
      rw [List.take_length] at hS
      obtain ⟨o, es, ep, t, ho, more⟩ := hS; exact ⟨o, es, ep, t, kp Sa _ (by simpa using hS1) ho, more⟩)
  | succ k ih =>
    intro i s hk hi hst hS hR
    have hlt : i < ss.length := by omega
    refine codeAny_builtin PyProof.Rows.F.entry_set_update_loop (by
      rw [Around.under_plainId PyProof.Rows.F.plain_set_update_loop _]
      refine wpAny_bind (W.item i s _ _ (by omega) hst fun v h1 tk hP hst1 kp => ?_)
      obtain ⟨t, rfl⟩ := hv i v hP
      have hS' : h1.SetOf (strKind prog w) Sa (fun x => decide (x ∈ ss.take i)) (ded (ss.take i)).length := by
        obtain ⟨o, es, ep, tb, ho, more⟩ := hS; exact ⟨o, es, ep, tb, kp Sa _ (by simpa using hS1) ho, more⟩
      refine wpAny_bind (wpAny_holding ?_)
      unfold setAdd
      refine wpAny_holding (wpAny_bind ((strKind prog w).pyHash (k := ss.getD i "") (strKind_is _ _ _ _) ?_))
      have room : (ded (ss.take i)).length + 1 < scanBound := by have := ded_le (ss.take i); rw [List.length_take] at this; omega
      refine wpAny_setAddHashed_of (knd := strKind prog w) (s := { s with heap := h1, toks := tk + 1 }) (strKind_is _ _ _ _) rfl hS' room fun h2 same hS2 => ?_
      have tk1 : ss.take (i + 1) = ss.take i ++ [ss.getD i ""] := by rw [List.take_succ, List.getD_eq_getElem?_getD, List.getElem?_eq_getElem hlt]; rfl
      have hSi : h2.SetOf (strKind prog w) Sa (fun x => decide (x ∈ ss.take (i + 1))) (ded (ss.take (i + 1))).length := PyProof.Rows.SetOf_congr hS2 (fun x => by rw [tk1]; simp [List.mem_append]) (by rw [tk1, ded_len]; simp)
      refine wpAny_pure ⟨plainId_quiet PyProof.Rows.F.plain_set_update_loop _, ih (i + 1) _ (by omega) hlt (W.frame _ h1 _ hst1 fun b hb o e => ?_) hSi fun h3 tk3 kp3 hS3 => ?_⟩
      · rw [same.2 b (fun z => by simp at hb; rcases hb with q | q; exact hS1 (z ▸ q); exact hSx (z ▸ q))]; exact e
      · exact hR h3 tk3 (fun b o b1 b2 e => kp3 b o b1 b2 (by rw [same.2 b b1]; exact kp b o (by simpa using b2) e)) hS3)
end
end L2.CF
namespace L2.CF
open PySem PySem.Spec PyProof.Rows
section
variable {prog : Program} {w : World} {A : Around} {s : Shared} {E : Value → Shared → Prop}
def emptySet (led : Bool) : Obj := { cls := .type "set", dict := none, data := .set #[] 0 (.fresh 0 0 led) }
set_option maxHeartbeats 3200000 in
theorem set_tup {t : Addr} {items : Array Value} {ss : List Str} {Q : Value → Shared → Prop} (hh : A.handled = none) (ht : s.heap.IsTuple t items) (hn : items.size = ss.length)
    (hv : ∀ (i : Nat) (v : Value), items[i]? = some v → ∃ k, v = Value.str (ss.getD i "") k) (hb : ss.length + 1 < scanBound)
    (h : ∀ (h' : Heap) (tk : Nat), h'.SetOf (PySem.strKind prog w) s.heap.objs.size (fun x => decide (x ∈ ss)) (ded ss).length → (∀ b o, s.heap.get? b = some o → h'.get? b = some o) → Q (.ref s.heap.objs.size) { s with heap := h', toks := tk }) :
    wpAny (model prog w) A (call (.type "set") [.ref t]) Q E s := by
  obtain ⟨c, tl, hmro⟩ := PySem.F.called_set.mro
  have hmade := PySem.F.called_set.made; have hsub := PySem.F.called_set.sub
  refine wpAny_call (codeAny_of_tree (show wpAny _ _ (callAny (.type "set") _) _ _ _ from wpAny_pure ⟨Code.quiet_builtin _ (by decide +kernel), codeAny_builtin PySem.F.entry_type_call ?_⟩))
  rw [Around.under_plain (weight_type_call_type "set" [.ref t] []) rfl]
  have h1 := PySem.F.called_set.notType; have h2 := PySem.F.called_set.canCreate; have hct := PySem.F.typeCall_set_1 (.ref t)
  repeat (any_goals (first | assumption | wp_step))
  refine codeAny_mono (code_set_new_1 (.ref t) (E := E) (Q₁ := fun obj s₁ => ∃ led : Bool, obj = .ref s.heap.objs.size ∧ s₁ = { s with heap := s.heap.push (emptySet led) }) fun led => ⟨led, rfl, rfl⟩) fun r s₁ hr => ?_
  cases r with
  | error e => exact hr
  | ok fl =>
    cases fl with
    | ret obj =>
      obtain ⟨led, rfl, rfl⟩ := hr
      have hS : (s.heap.push (emptySet led)).get? s.heap.objs.size = some (emptySet led) := Heap.get?_push_size _ rfl
      have hT : Shared.TypeIs { s with heap := s.heap.push (emptySet led) } (.ref s.heap.objs.size) "set" := ⟨_, hS, rfl⟩
      have hli := PySem.F.called_set.init.lookup; have hbi := PySem.F.called_set.init.bind (.ref s.heap.objs.size)
      repeat (any_goals (first | assumption | wp_step))
      refine codeAny_mono (codeAny_call_builtin (R := wants (fun r s₂ => r = .none ∧ ∃ h' tk, s₂ = { s with heap := h', toks := tk } ∧ h'.SetOf (PySem.strKind prog w) s.heap.objs.size (fun x => decide (x ∈ ss)) (ded ss).length ∧ (∀ b o, s.heap.get? b = some o → h'.get? b = some o)) E) PySem.F.called_set.init.plain PySem.F.entry_set_init (check_set_init_1 hT ?_)) fun r₂ s₂ hr₂ => ?_
      · obtain ⟨ol, hol, hcl, nl, hdl⟩ := ht
        obtain ⟨ocls, odict, odata, oslots⟩ := ol
        simp only at hcl hdl
        subst hcl hdl
        have hol' : (s.heap.push (emptySet led)).get? t = some { cls := .type "tuple", dict := odict, data := .seq items nl, slots := oslots } := Heap.get?_push_of_some _ hol
        have hs1 := PySem.F.sub_tuple_set; have hs2 := PySem.F.sub_tuple_frozenset
        have hne : (Value.type "tuple" == Value.type "dict") = false := by decide
        have ht1 : (s.heap.push (emptySet led)).IsTuple t items := ⟨_, hol', rfl, nl, rfl⟩
        unfold Builtin.«set.__init__» noKeywords Builtin.Frozenset.updateFrom
        generalize hPI : pyIter = PI; wp_walk; subst hPI
        refine wpAny_pyIter_tuple ht1 (wpAny_bind (wpAny_runValue ?_))
        have hlt : t < s.heap.objs.size := Heap.lt_size hol
        have hh3 : A.in1.in1.in1.handled = none := by simp [hh]
        have sz : (s.heap.push (emptySet led)).objs.size = s.heap.objs.size + 1 := Heap.size_push ..
        refine set_loop (Walks.tuple hh3 _ t (by rw [sz]; exact Nat.ne_of_lt (Nat.lt_succ_of_lt hlt)) items) (by rw [sz]; exact Nat.ne_of_lt (Nat.lt_succ_self _)) (Nat.ne_of_gt hlt) hn hv hb _ 0 _ rfl (Nat.zero_le _) ⟨⟨_, Heap.get?_push_size _ rfl, rfl, rfl⟩, ht1.push _⟩ ?_ fun h' tk kp hS' => ?_
        · exact PyProof.Rows.SetOf_congr ((PyProof.Rows.setObjOf_fresh (knd := PySem.strKind prog w) led).setOf (Heap.get?_push_of_some _ hS) (by unfold scanBound; omega)) (fun _ => by simp) rfl
        · refine wpAny_pure (show wpAny _ _ (ret Value.none) _ _ _ from wpAny_pure ⟨rfl, h', tk, rfl, hS', fun b o e => ?_⟩)
          have hb0 : b < s.heap.objs.size := Heap.lt_size e
          exact kp b o (Nat.ne_of_lt hb0) (by rw [sz]; exact Nat.ne_of_lt (Nat.lt_succ_of_lt hb0)) (Heap.get?_push_of_some _ (Heap.get?_push_of_some _ e))
      · cases r₂ with
        | error e => exact hr₂
        | ok fl₂ =>
          cases fl₂ with
          | ret r =>
            obtain ⟨rfl, h', tk, rfl, hS', hk'⟩ := hr₂
            repeat (any_goals (first | assumption | wp_step))
            exact h _ _ hS' hk'
          | _ => exact hr₂.elim
    | _ => exact hr.elim
end
end L2.CF
namespace L2.CF
open PySem PySem.Spec PyProof.Rows
variable {K : PySem.W.Frag}
section
variable {X : Cx} {P : Nat} {a b : Expr} {fa fb : FE} {pos : Pos}
theorem ds_never {st : Stmt} : DSt P X st (fun _ => none) := fun _ _ _ h => nomatch h
theorem bt_set : bootBuiltins "set" = some (.type "set") := by decide +kernel
theorem strs_pus {G : Hp} : ∀ {vs : List V} {ds : List D} {ss : List Str}, Pus K G vs ds → strsD ds = some ss → vs = ss.map V.str
  | _, _, ss, .nil, e => by cases e; rfl
  | _, _, ss, .cons (d := d) h t, e => by
    cases d with
    | str x =>
      obtain ⟨ys, e1, e2⟩ := omi (show (strsD _).map (x :: ·) = some ss from e)
      subst e2
      cases h
      rw [strs_pus t e1]; rfl
    | _ => cases e
theorem vals_strs : ∀ {ss : List Str} {us : List Value}, Vals (ss.map V.str) us → us.length = ss.length ∧ ∀ (i : Nat) (v : Value), us[i]? = some v → ∃ t, v = Value.str (ss.getD i "") t
  | [], _, .nil => ⟨rfl, fun i v h => by simp at h⟩
  | x :: ss, _, .cons r t => by
    obtain ⟨l, q⟩ := vals_strs t
    refine ⟨by simp [l], fun i v h => ?_⟩
    cases i with
    | zero =>
      simp at h
      subst h
      obtain ⟨t, rfl⟩ := r
      exact ⟨t, rfl⟩
    | succ i => exact q i v (by simpa using h)
def gLenSet : RV → Option RV
  | .p (.tup l) => (strsD l).bind fun ss => if ss.length < 60 then some (.p (.int (ded ss).length)) else none
  | _ => none
def fLenSet (f : FE) : FE := f1 gLenSet f
instance [h : KpE P fa] : KpE P (fLenSet fa) := inferInstanceAs (KpE P (f1 _ fa))
def isSS (Pg : Program) (w : World) (p : Addr) (ss : List Str) : Heap → Prop := fun h => h.SetOf (PySem.strKind Pg w) p (fun x => decide (x ∈ ss)) (ded ss).length
theorem call_setS (hc : X.calm = true) : CallR X (.type "set") (fun vs H Q => ∃ t ss, vs = [.ref t] ∧ SqT X.K H t (ss.map V.str) ∧ ss.length < 60 ∧ ∀ p, H p = none → Q (.ref p) (upd H p (.ext (isSS X.prog X.w p ss)))) := by
  intro pins s σ H xs us Q I r ⟨t, ss, e, sq, hz, q⟩
  subst e
  cases r with
  | cons r0 r1 =>
    cases r1
    cases r0
    obtain ⟨its, rv, tup, _⟩ := I.tuple sq
    obtain ⟨l1, l2⟩ := vals_strs rv
    have fr : H s.heap.objs.size = none := I.hok.fresh (Nat.le_refl _)
    refine set_tup (ss := ss) (I.ok.hd hc) tup (by simpa using l1) (fun i v hv => l2 i v (by simpa using hv)) (by unfold scanBound; omega) fun h' tk hS kp => ?_
    refine ⟨.ref s.heap.objs.size, _, I.laid (o := .ext (isSS X.prog X.w s.heap.objs.size ss)) kp (Nat.le_refl _) ⟨hS, ?_, fun h1 h2 p1 p2 => ?_⟩, rfl, q _ fr⟩
    · obtain ⟨o, es, ep, tb, ho, _⟩ := hS; exact ⟨o, ho⟩
    · obtain ⟨o, es, ep, tb, ho, more⟩ := p1; exact ⟨o, es, ep, tb, p2 _ ho, more⟩
theorem call_lenS : CallR X (.builtin "len") (fun vs H Q => ∃ p ss, vs = [.ref p] ∧ H p = some (.ext (isSS X.prog X.w p ss)) ∧ ss.length < 60 ∧ Q (.int (ded ss).length) H) := by
  intro pins s σ H xs us Q I r ⟨p, ss, e, hp, hz, q⟩
  subst e
  cases r with
  | cons r0 r1 =>
    cases r1
    cases r0
    obtain ⟨⟨o, es, ep, tb, ho, hx, hd, _, _, _, hf, hn⟩, _, _⟩ := (show ObjOk X.prog X.w H s.heap p (.ext (isSS X.prog X.w p ss)) from I.hok p _ hp)
    have := ded_le ss
    refine call_len_set ho hx hd hf (by rw [hn]; omega) ?_
    rw [hn]
    exact ⟨.int (ded ss).length, H, I.tok _, ⟨_, rfl⟩, q⟩
theorem de_lenSet {p p2 pos2 : Pos} (hc : X.calm = true) (hg : Gl X "len") (hm : X.mg "len" = none) (hg2 : Gl X "set") (hm2 : X.mg "set" = none) (ha : DE X a fa)
    (he : starEach [a] X.env = (false, eval a X.env) :: starEach [] X.env := by rfl) (he2 : starEach [.Call (.Name "set" p2) [a] [] pos2] X.env = (false, eval (.Call (.Name "set" p2) [a] [] pos2) X.env) :: starEach [] X.env := by rfl) :
    DE X (.Call (.Name "len" p) [.Call (.Name "set" p2) [a] [] pos2] [] pos) (fLenSet fa) := by
  intro ρ rr ρ' hf
  obtain ⟨ra, x, r, h1, h2, h3, rfl⟩ := f1_inv hf
  unfold gLenSet at h3
  split at h3
  · next l =>
    obtain ⟨ss, g1, g2⟩ := obi h3
    split at g2
    · next hz =>
      cases g2
      refine PE.imp (pe_callB call_lenS hg hm bt_len (pa_cons (pe_callTy (call_setS hc) hg2 hm2 bt_set (pa_cons (ha _ _ _ h1) pa_nil he) (he := he)) pa_nil he2) (he := he2)) fun σ H Q ⟨G, A, R, k⟩ => ?_
      refine ⟨G, A, R, fun v G1 H1 A1 S e1 R1 q1 f1 => ?_⟩
      obtain ⟨S', hx⟩ := res_of R1 q1 h2
      obtain ⟨t, ws, rfl, sq, z⟩ := itemsT_of R1.imm hx rfl
      rw [strs_pus z g1] at sq
      refine ⟨t, ss, rfl, sq, hz, fun p hp => ?_⟩
      have al : Al G1 H1 G1 (upd H1 p (.ext (isSS X.prog X.w p ss))) := Al.own R1.imm hp
      exact ⟨p, ss, rfl, upd_same, hz, k _ G1 _ A1 [] (e1.trans al.evo) (al.rep R1) ⟨⟨rfl, .int⟩, by simp⟩ (by simp)⟩
    · cases g2
  · cases h3
end
end L2.CF
namespace L2.CF
open PySem PySem.Spec PyProof.Rows
variable {K : PySem.W.Frag}
section
variable {X : Cx} {P : Nat} {a b e k : Expr} {fa fb fe fk : FE} {pos p2 : Pos}
def gInK (neg : Bool) : G2 := fun x y => (itemsK y).bind fun kvs => (keyR x).map fun q => .p (.bl (neg ^^ (valK kvs q).isSome))
theorem gInK_bl {neg : Bool} : ∀ x y r, gInK neg x y = some r → ∃ k, r = .p (.bl k) := fun x y r h => by
  obtain ⟨kvs, _, h⟩ := obi h
  obtain ⟨q, _, h⟩ := omi h
  exact ⟨_, h.symm⟩
theorem inK_get {G H : Hp} {x y r : RV} {neg : Bool} {vx vy : V} {Sx Sy : List Addr} (l : Le G H) (h : gInK neg x y = some r) (hx : RepV K G H vx x Sx) (hy : RepV K G H vy y Sy) : ∃ a o b, vy = .ref a ∧ DGet H a vx o ∧ r = .p (.bl (neg ^^ b)) ∧ o.isSome = b := by
  obtain ⟨kvs, h1, h⟩ := obi h
  obtain ⟨q, h2, h⟩ := omi h
  subst h
  obtain ⟨a, vs, rfl, rd, z⟩ := itemsK_of l hy h1
  obtain rfl := keyR_of hx h2
  refine ⟨a, valV vs q, _, rfl, .inl ⟨vs, q, rd, rfl, rfl⟩, rfl, ?_⟩
  rcases z.val (k := q) with ⟨g1, g2⟩ | ⟨w, dw, g1, g2, _⟩
  · rw [g1, g2]; rfl
  · rw [g1, g2]; rfl
theorem o_inK (hu : X.A.units + 64 < cLine) : OpD X (compareOp .In) (gInK false) := by
  intro x y r h pins s σ H vx vy ux uy Q I rx ry ⟨G, Sx, Sy, l, hx, hy, q⟩
  obtain ⟨a, o, b, rfl, g, rfl, eb⟩ := inK_get l h hx hy
  cases ry
  refine d_in (by omega) I g rx fun s' I' => ⟨.bl b, H, I', by rw [eb]; rfl, ?_⟩
  exact q (.bl b) G H [] (Al.refl l) ⟨rfl, by simp only [Bool.false_xor]; exact .bl⟩ (by simp)
theorem o_notinK (hu : X.A.units + 64 < cLine) : OpD X (compareOp .NotIn) (gInK true) := by
  intro x y r h pins s σ H vx vy ux uy Q I rx ry ⟨G, Sx, Sy, l, hx, hy, q⟩
  obtain ⟨a, o, b, rfl, g, rfl, eb⟩ := inK_get l h hx hy
  cases ry
  refine d_notIn (by omega) I g rx fun s' I' => ⟨.bl (!b), H, I', by rw [eb]; rfl, ?_⟩
  exact q (.bl (!b)) G H [] (Al.refl l) ⟨rfl, by simp only [Bool.true_xor]; exact .bl⟩ (by simp)
def repD (l : List D) (n : Nat) : List D := (List.replicate n l).flatten
def gMulL : G2
  | .L l, .p (.int n) => if 0 ≤ n ∧ n < 1000000 ∧ l.length * n.toNat ≤ sizeLine then some (.L (repD l n.toNat)) else none
  | _, _ => none
theorem Pus.rep {G : Hp} {vs : List V} {ds : List D} (h : Pus K G vs ds) : ∀ n : Nat, Pus K G (List.replicate n vs).flatten (repD ds n)
  | 0 => .nil
  | n + 1 => by
    unfold repD
    rw [List.replicate_succ, List.replicate_succ, List.flatten_cons, List.flatten_cons]
    exact h.append (Pus.rep h n)
theorem o_mulL : OpD X (binaryOp .Mult) gMulL := by
  intro x y r h
  unfold gMulL at h
  split at h
  · next l n =>
    split at h
    · next hz =>
      cases h
      refine OpR.imp op_rep fun vx vy H Q ⟨G, Sx, Sy, lG, hx, hy, q⟩ => ?_
      obtain ⟨c, vs, rfl, _, g1, g2, z⟩ := hx
      obtain rfl := pu_int hy
      refine ⟨c, n, vs, rfl, rfl, g1, by omega, by omega, by rw [z.length]; exact hz.2.2, fun p hp => ?_⟩
      have al : Al G H G (upd H p (.lst (List.replicate n.toNat vs).flatten)) := Al.own lG hp
      exact q _ G _ [p] al (new_L lG hp (z.rep n.toNat)) (by simpa using hp)
    · cases h
  · cases h
theorem Pus.reverse {G : Hp} : ∀ {vs : List V} {ds : List D}, Pus K G vs ds → Pus K G vs.reverse ds.reverse
  | _, _, .nil => .nil
  | _, _, .cons h t => by
    rw [List.reverse_cons, List.reverse_cons]
    exact (Pus.reverse t).append (.cons h .nil)
def gReverse : GLm := fun ds xs => match xs with
  | [] => some (ds.reverse, .non)
  | _ => none
theorem m_reverse : LmD X "list.reverse" gReverse := by
  intro ds xs ds' d e
  unfold gReverse at e
  split at e
  · cases e
    refine MtR.imp mt_reverse fun v vs H Q ⟨G, a, us, l, e1, g1, g2, z, rl, q⟩ => ?_
    obtain rfl : vs = [] := by cases vs with | nil => rfl | cons _ _ => exact rl.elim
    exact ⟨a, us, e1, rfl, g1, q .non _ z.reverse .non⟩
  · cases e
def fRev (fe fk : FE) : FE := fun ρ => (fe ρ).bind fun p => (fk p.2).bind fun q => match q.1 with
  | .own (.p (.int i)) => if i = -1 then (res q.2 p.1).bind fun x => (itemsL x).map fun ds => (.own (.L ds.reverse), q.2) else none
  | _ => none
theorem fRev_inv {ρ ρ' : DS} {rr : RR} (h : fRev fe fk ρ = some (rr, ρ')) : ∃ ra ρ1 x ds, fe ρ = some (ra, ρ1) ∧ fk ρ1 = some (.own (.p (.int (-1))), ρ') ∧ res ρ' ra = some x ∧ itemsL x = some ds ∧ rr = .own (.L ds.reverse) := by
  unfold fRev at h
  obtain ⟨⟨ra, ρ1⟩, h1, h⟩ := obi h
  obtain ⟨⟨rb, ρ2⟩, h2, h⟩ := obi h
  cases rb with
  | «at» _ => cases h
  | own r =>
    cases r with
    | p d =>
      cases d with
      | int i =>
        simp only at h
        split at h
        · next hi =>
          subst hi
          obtain ⟨x, h3, h⟩ := obi h
          obtain ⟨ds, h4, h⟩ := omi h
          cases h
          exact ⟨ra, ρ1, x, ds, h1, h2, h3, h4, rfl⟩
        · cases h
      | _ => cases h
    | _ => cases h
def tRev (K : PySem.W.Frag) (te tk : TE) : TE := fun σ H Q => te σ H fun x H1 => tk σ H1 fun y H2 => y = .int (-1) ∧ ∃ a xs, x = .ref a ∧ SqL K H2 a xs ∧ ∀ p, H2 p = none → Q (.ref p) (upd H2 p (.lst xs.reverse))
theorem pe_rev {te tk : TE} (he : PE X e te) (hk : PE X k tk) : PE X (.Subscript e (.Slice none none (some k) p2) pos) (tRev X.K te tk) := by
  intro pins s σ H Q I h
  refine Subscript_ (thn (he pins s σ H _ I h) fun v s1 ⟨x, H1, I1, r1, q1⟩ => ?_)
  refine wpAny_Slice (by
    rw [evalPart_none]; refine wpAny_pure (wpAny_pure ?_)
    rw [evalPart_some]; refine thn (hk pins s1 σ H1 _ I1 q1) fun vk s3 ⟨y, H3, I3, ry, q3⟩ => ?_
    obtain ⟨rfl, a, xs, rfl, sq, q⟩ := q3
    obtain ⟨tk, rfl⟩ := ry
    cases r1
    have I4 : Inv X pins σ H3 { s3 with heap := s3.heap.push { cls := .type "slice", data := .fields #[.none, .none, .int (-1) tk] } } := I3.kept (t' := s3.toks) fun b ob z => Heap.get?_push_of_some _ z
    obtain ⟨its, r, ht, hz⟩ := I4.list sq
    have hg : wpAny (model X.prog X.w) X.A (getItem (.ref a) (.ref s3.heap.objs.size)) (EP X pins σ Q) X.xe { s3 with heap := s3.heap.push { cls := .type "slice", data := .fields #[.none, .none, .int (-1) tk] } } := by
      refine wpAny_getItem_list_slice ht.isList (Heap.IsSliceOf.new ..) .none .none (.int (-1) tk) (by decide) ?_ (by rw [List.size_toArray, ← r.length]; exact hz)
      rw [PySem.W.krv_pick]
      refine ⟨.ref _, _, I4.laid (t' := s3.toks) (o := .lst xs.reverse) (fun b ob z => Heap.get?_push_of_some _ z) (Nat.le_refl _) ?_, rfl, q _ (I4.hok.fresh (Nat.le_refl _))⟩
      exact ⟨by rw [List.length_reverse]; exact hz, _, 0, r.reverse, Heap.get?_push_size _ rfl⟩
    exact tail_any (ops := [.ref a, .ref s3.heap.objs.size]) ht.isList.typeIs slot_list_getitem.lookup hg (by with_unfolding_all rfl))
theorem de_rev (he : DE X e fe) (hk : DE X k fk) : DE X (.Subscript e (.Slice none none (some k) p2) pos) (fRev fe fk) := by
  intro ρ rr ρ' hf
  obtain ⟨ra, ρ1, x, ds, h1, h2, h3, h4, rfl⟩ := fRev_inv hf
  refine PE.imp (pe_rev (he _ _ _ h1) (hk _ _ _ h2)) fun σ H Q ⟨G, A, R, q⟩ => ⟨G, A, R, fun v1 G1 H1 A1 S1 e1 R1 q1 f1 => ⟨G1, A1, R1, fun v2 G2 H2 A2 S2 e2 R2 q2 f2 => ⟨pu_int q2.1, ?_⟩⟩⟩
  obtain ⟨Sx, hx⟩ := res_of R2 (q1.evo e2) h3
  obtain ⟨a, vs, rfl, sq, z⟩ := itemsL_of R2.imm hx h4
  refine ⟨a, vs, rfl, sq, fun p hp => ?_⟩
  have al : Al G2 H2 G2 (upd H2 p (.lst vs.reverse)) := Al.own R2.imm hp
  have fr : ∀ c ∈ [p], H2 c = none := by simpa using hp
  exact q _ G2 _ A2 [p] ((e1.trans e2).trans al.evo) (al.rep R2) ⟨new_L R2.imm hp z.reverse, evo_apart (G := G2) (H := H2) (A := A2) R2 fr⟩ fun c hc => (e1.trans e2).back (fr c hc)
instance [h1 : KpE P fe] [h2 : KpE P fk] : KpE P (fRev fe fk) := ⟨fun ρ rr ρ' h => by
  obtain ⟨ra, ρ1, x, ds, g1, g2, _⟩ := fRev_inv h
  exact (h1.kp _ _ _ g1).trans (h2.kp _ _ _ g2)⟩
def gMin : GL
  | [.p (.int i), .p (.int j)] => some (.p (.int (if j < i then j else i)))
  | _ => none
theorem c_min (hc : X.calm = true) : CallD X (.builtin "min") gMin := by
  intro xs r e
  unfold gMin at e
  split at e
  · next i j =>
    cases e
    refine CallR.imp (call_min2 hc) fun vs H Q ⟨G, l, h, q⟩ => ?_
    obtain ⟨v, w, S, T, rfl, hv, hw⟩ := h.two
    exact ⟨i, j, by rw [pu_int hv, pu_int hw], q _ G H [] (Al.refl l) ⟨rfl, .int⟩ (by simp)⟩
  · cases e
end
end L2.CF
namespace L2.CF
open PySem PySem.Spec PyProof.Rows HT
variable {K : PySem.W.Frag}
section
variable {prog : Program} {w : World} {A : Around} {E : Value → Shared → Prop} {s : Shared}
theorem adjust_rev (n : Nat) : Builtin.Slice.sliceAdjust none none (-1) (n : Int) = ((n : Int) - 1, -1) := by
  unfold Builtin.Slice.sliceAdjust
  simp
theorem places_rev (n : Nat) : Builtin.Slice.slicePlaces ((n : Int) - 1) (-1) (-1) = n := by
  unfold Builtin.Slice.slicePlaces
  simp
  first | done | omega | (split <;> omega)
theorem sliceApplied_rev {sl : Addr} {tk : Tok} {n : Nat} {Q : Int × Int × Nat → Shared → Prop} (hs : s.heap.IsSliceOf sl .none .none (.int (-1) tk)) (h : Q ((n : Int) - 1, -1, n) s) : wpAny (model prog w) A (Builtin.Slice.sliceApplied (.ref sl) (pure (n : Int))) Q E s := by
  obtain ⟨os, hos, hcs, hds⟩ := id hs
  unfold Builtin.Slice.sliceApplied Builtin.Slice.sliceFields
  refine wpAny_bind (wpAny_bind (wpAny_field hos hds (x := .none) rfl (wpAny_bind (wpAny_field hos hds (x := .none) rfl (wpAny_bind (wpAny_field hos hds (x := .int (-1) tk) rfl (wpAny_pure ?_)))))))
  refine wpAny_bind (slicePart_int ?_)
  show wpAny _ _ (if ((-1 : Int) == 0) = true then _ else _) _ _ s
  rw [if_neg (by decide)]
  refine wpAny_bind (slicePart_ .none (wpAny_bind (slicePart_ .none (wpAny_bind (wpAny_pure ?_)))))
  show wpAny _ _ (match Builtin.Slice.sliceAdjust none none (-1) (n : Int) with | (lo, hi) => pure (lo, (-1 : Int), Builtin.Slice.slicePlaces lo hi (-1))) _ _ s
  rw [adjust_rev n]
  show wpAny _ _ (pure ((n : Int) - 1, (-1 : Int), Builtin.Slice.slicePlaces ((n : Int) - 1) (-1) (-1))) _ _ s
  rw [places_rev]
  exact wpAny_pure h
theorem pick_rev (xs : Array Value) : ((List.range xs.size).filterMap fun (m : Nat) => xs[(((xs.size : Int) - 1) + (m : Int) * (-1)).toNat]?).toArray = xs.toList.reverse.toArray := by
  have e : (fun (m : Nat) => xs[(((xs.size : Int) - 1) + (m : Int) * (-1)).toNat]?) = (fun k => xs[k]?) ∘ (fun m => xs.size - 1 - m) := by
    funext m
    show xs[(((xs.size : Int) - 1) + (m : Int) * (-1)).toNat]? = xs[xs.size - 1 - m]?
    have : (((xs.size : Int) - 1) + (m : Int) * (-1)).toNat = xs.size - 1 - m := by omega
    rw [this]
  rw [e, ← List.filterMap_map, PySem.W.krv_range, List.filterMap_reverse, PySem.W.krv_all]
theorem getItem_tuple_rev {t sl : Addr} {items : Array Value} {tk : Tok} {Q : Value → Shared → Prop} (ht : IsTup s.heap t items) (hs : s.heap.IsSliceOf sl .none .none (.int (-1) tk))
    (h : Q (.ref s.heap.objs.size) { s with heap := s.heap.push { cls := .type "tuple", data := .seq items.toList.reverse.toArray } }) (hsz : items.size ≤ sizeLine) : wpAny (model prog w) A (getItem (.ref t) (.ref sl)) Q E s := by
  have htake : sizeOk (.seq items.toList.reverse.toArray) := by
    show items.toList.reverse.toArray.size ≤ sizeLine
    rw [List.size_toArray, List.length_reverse, Array.length_toList]; exact hsz
  obtain ⟨os, hos, hcs, hds⟩ := id hs
  have hTs : s.TypeIs (.ref sl) "slice" := ⟨os, hos, hcs⟩
  unfold getItem
  try with_reducible refine wpAny_holding ?_
  first | refine wpAny_bind (wpAny_pure ?_) | skip
  refine wpAny_bind (wpAny_sequenceKey ht.typeIs (by decide) ?_)
  refine wpAny_bind (wpAny_callSpecial?_slot (name := Str.ofString "__getitem__") ht.typeIs PyProof.Rows.slot_tuple_getitem (wpAny_call_entry PyProof.Rows.slot_tuple_getitem ht.typeIs entry_tuple_getitem ?_ (args_tuple_getitem _ _)))
  show wpAny _ _ (Builtin.Tuple.tupleItemsOf (.ref t) >>= _) _ _ s
  refine wpAny_bind (tupleItemsOf_ ht ?_)
  refine wpAny_bind (wpAny_typeOf hTs ?_)
  rw [if_pos (by decide)]
  refine wpAny_bind (sliceApplied_rev hs ?_)
  have hno : ¬ ((((items.size : Int) - 1 == 0) && ((-1 : Int) == 1) && (items.size == items.size)) = true) := by
    intro q
    rw [Bool.and_eq_true, Bool.and_eq_true] at q
    exact absurd q.1.2 (by decide)
  show wpAny _ _ (if (((items.size : Int) - 1 == 0) && ((-1 : Int) == 1) && (items.size == items.size)) = true then _ else _) _ _ s
  rw [if_neg hno, pick_rev]
  first
    | exact wpAny_bind (m := Builtin.Tuple.tupleExact _) (wpAny_newObj_type (wpAny_pure ⟨_, rfl, wpAny_pure h⟩) htake)
    | exact wpAny_bind (m := Builtin.Tuple.tupleExact _) (wpAny_newObj_type (wpAny_bind (wpAny_pure (wpAny_pure ⟨_, rfl, wpAny_pure h⟩))) htake)
    | exact wpAny_bind (wpAny_bind (m := Builtin.Tuple.tupleExact _) (wpAny_newObj_type (wpAny_pure (wpAny_pure ⟨_, rfl, wpAny_pure h⟩)) htake))
    | exact wpAny_bind (wpAny_bind (m := Builtin.Tuple.tupleExact _) (wpAny_newObj_type (wpAny_pure ⟨_, rfl, wpAny_pure h⟩) htake))
theorem cat_tup0 {t b : Addr} {ws : List Value} {Q : Value → Shared → Prop} (ht : IsTup s.heap t #[]) (hb : IsTup s.heap b ws.toArray) (h1 : Q (.ref b) s) : wpAny (model prog w) A (binaryOp .Add (.ref t) (.ref b)) Q E s := by
  obtain ⟨⟨cls, dd, data, sl⟩, ho, hc, n, hd⟩ := id ht
  obtain ⟨⟨cls2, dd2, data2, sl2⟩, ho2, hc2, n2, hd2⟩ := id hb
  simp only at hc hd hc2 hd2
  subst hc hd hc2 hd2
  exact concat_meets ⟨_, ho, rfl⟩ ⟨_, ho2, rfl⟩ noFill_tuple_add seq_tuple_add PySem.F.slot_tuple_add PySem.F.entry_tuple_add (PySem.F.args_tuple_add_2 _ _) (tuple_addW0 t b #[] ws.toArray n n2 dd dd2 sl sl2 rfl) ⟨ho, ho2, h1⟩
end
section
variable {X : Cx} {P : Nat} {a b e k : Expr} {fa fb fe fk : FE} {pos p2 : Pos}
def fRevT (fe fk : FE) : FE := fun ρ => (fe ρ).bind fun p => (fk p.2).bind fun q => match q.1 with
  | .own (.p (.int i)) => if i = -1 then (res q.2 p.1).bind fun x => (itemsT x).map fun ds => (.own (.p (.tup ds.reverse)), q.2) else none
  | _ => none
theorem fRevT_inv {ρ ρ' : DS} {rr : RR} (h : fRevT fe fk ρ = some (rr, ρ')) : ∃ ra ρ1 x ds, fe ρ = some (ra, ρ1) ∧ fk ρ1 = some (.own (.p (.int (-1))), ρ') ∧ res ρ' ra = some x ∧ itemsT x = some ds ∧ rr = .own (.p (.tup ds.reverse)) := by
  unfold fRevT at h
  obtain ⟨⟨ra, ρ1⟩, h1, h⟩ := obi h
  obtain ⟨⟨rb, ρ2⟩, h2, h⟩ := obi h
  cases rb with
  | «at» _ => cases h
  | own r =>
    cases r with
    | p d =>
      cases d with
      | int i =>
        simp only at h
        split at h
        · next hi =>
          subst hi
          obtain ⟨x, h3, h⟩ := obi h
          obtain ⟨ds, h4, h⟩ := omi h
          cases h
          exact ⟨ra, ρ1, x, ds, h1, h2, h3, h4, rfl⟩
        · cases h
      | _ => cases h
    | _ => cases h
def tRevT (K : PySem.W.Frag) (te tk : TE) : TE := fun σ H Q => te σ H fun x H1 => tk σ H1 fun y H2 => y = .int (-1) ∧ ∃ a xs, x = .ref a ∧ SqT K H2 a xs ∧ ∀ p, H2 p = none → Q (.ref p) (upd H2 p (.tup xs.reverse))
theorem pe_revT {te tk : TE} (he : PE X e te) (hk : PE X k tk) : PE X (.Subscript e (.Slice none none (some k) p2) pos) (tRevT X.K te tk) := by
  intro pins s σ H Q I h
  refine Subscript_ (thn (he pins s σ H _ I h) fun v s1 ⟨x, H1, I1, r1, q1⟩ => ?_)
  refine wpAny_Slice (by
    rw [evalPart_none]; refine wpAny_pure (wpAny_pure ?_)
    rw [evalPart_some]; refine thn (hk pins s1 σ H1 _ I1 q1) fun vk s3 ⟨y, H3, I3, ry, q3⟩ => ?_
    obtain ⟨rfl, a, xs, rfl, sq, q⟩ := q3
    obtain ⟨tk, rfl⟩ := ry
    cases r1
    have I4 : Inv X pins σ H3 { s3 with heap := s3.heap.push { cls := .type "slice", data := .fields #[.none, .none, .int (-1) tk] } } := I3.kept (t' := s3.toks) fun b ob z => Heap.get?_push_of_some _ z
    obtain ⟨its, r, ht, hz⟩ := I4.tuple sq
    have hg : wpAny (model X.prog X.w) X.A (getItem (.ref a) (.ref s3.heap.objs.size)) (EP X pins σ Q) X.xe { s3 with heap := s3.heap.push { cls := .type "slice", data := .fields #[.none, .none, .int (-1) tk] } } := by
      refine getItem_tuple_rev ht (Heap.IsSliceOf.new ..) ?_ (by rw [List.size_toArray, ← r.length]; exact hz)
      refine ⟨.ref _, _, I4.laid (t' := s3.toks) (o := .tup xs.reverse) (fun b ob z => Heap.get?_push_of_some _ z) (Nat.le_refl _) ?_, rfl, q _ (I4.hok.fresh (Nat.le_refl _))⟩
      exact ⟨by rw [List.length_reverse]; exact hz, _, r.reverse, IsTup.new _ _⟩
    exact tail_any (ops := [.ref a, .ref s3.heap.objs.size]) ht.typeIs PyProof.Rows.slot_tuple_getitem.lookup hg (by with_unfolding_all rfl))
theorem de_revT (he : DE X e fe) (hk : DE X k fk) : DE X (.Subscript e (.Slice none none (some k) p2) pos) (fRevT fe fk) := by
  intro ρ rr ρ' hf
  obtain ⟨ra, ρ1, x, ds, h1, h2, h3, h4, rfl⟩ := fRevT_inv hf
  refine PE.imp (pe_revT (he _ _ _ h1) (hk _ _ _ h2)) fun σ H Q ⟨G, A, R, q⟩ => ⟨G, A, R, fun v1 G1 H1 A1 S1 e1 R1 q1 f1 => ⟨G1, A1, R1, fun v2 G2 H2 A2 S2 e2 R2 q2 f2 => ⟨pu_int q2.1, ?_⟩⟩⟩
  obtain ⟨Sx, hx⟩ := res_of R2 (q1.evo e2) h3
  obtain ⟨a, vs, rfl, sq, z⟩ := itemsT_of R2.imm hx h4
  refine ⟨a, vs, rfl, sq, fun p hp => ?_⟩
  have al : Al G2 H2 (upd G2 p (.tup vs.reverse)) (upd H2 p (.tup vs.reverse)) := Al.frozen R2.imm hp
  exact q _ _ _ A2 [] ((e1.trans e2).trans al.evo) (al.rep R2) ⟨new_T R2.imm hp z.reverse, by simp⟩ (by simp)
instance [h1 : KpE P fe] [h2 : KpE P fk] : KpE P (fRevT fe fk) := ⟨fun ρ rr ρ' h => by
  obtain ⟨ra, ρ1, x, ds, g1, g2, _⟩ := fRevT_inv h
  exact (h1.kp _ _ _ g1).trans (h2.kp _ _ _ g2)⟩
theorem op_catT0 : OpR X (binaryOp .Add) (fun x y H Q => ∃ a b ys, x = .ref a ∧ y = .ref b ∧ SqT X.K H a [] ∧ SqT X.K H b ys ∧ Q (.ref b) H) := by
  intro pins s σ H x y v u Q I rx ry ⟨a, b, ys, e1, e2, ha, hb, q⟩
  subst e1 e2
  cases rx
  cases ry
  obtain ⟨its, r1, p1, _⟩ := I.tuple ha
  obtain ⟨its2, r2, p2, _⟩ := I.tuple hb
  cases r1
  exact cat_tup0 p1 p2 ⟨.ref b, H, I, rfl, q⟩
def gCatT : G2
  | .p (.tup l), .p (.tup m) => if l.length + m.length ≤ sizeLine then some (.p (.tup (l ++ m))) else none
  | _, _ => none
theorem o_catT : OpD X (binaryOp .Add) gCatT := by
  intro x y r h
  unfold gCatT at h
  split at h
  · next l m =>
    split at h
    · next hz =>
      cases h
      by_cases hl : l = []
      · subst hl
        refine OpR.imp op_catT0 fun vx vy H Q ⟨G, Sx, Sy, lG, hx, hy, q⟩ => ?_
        obtain ⟨c, vs, rfl, sq, z⟩ := itemsT_of lG hx rfl
        obtain ⟨d, ws, rfl, sq2, z2⟩ := itemsT_of lG hy rfl
        cases z
        exact ⟨c, d, ws, rfl, rfl, sq, sq2, q _ G H [] (Al.refl lG) ⟨rfl, by simpa using hy.2⟩ (by simp)⟩
      · refine OpR.imp op_catT fun vx vy H Q ⟨G, Sx, Sy, lG, hx, hy, q⟩ => ?_
        obtain ⟨c, vs, rfl, sq, z⟩ := itemsT_of lG hx rfl
        obtain ⟨d, ws, rfl, sq2, z2⟩ := itemsT_of lG hy rfl
        refine ⟨c, d, vs, ws, rfl, rfl, sq, sq2, fun e => hl ?_, by rw [z.length, z2.length]; exact hz, fun e => ?_, fun _ p hp => ?_⟩
        · subst e; cases z; rfl
        · subst e; cases z2
          exact q _ G H [] (Al.refl lG) ⟨rfl, by simpa using hx.2⟩ (by simp)
        · have al : Al G H (upd G p (.tup (vs ++ ws))) (upd H p (.tup (vs ++ ws))) := Al.frozen lG hp
          exact q _ _ _ [] al (new_T lG hp (z.append z2)) (by simp)
    · cases h
  · cases h
def rExtT (K : PySem.W.Frag) : V → List V → Hp → VK → Prop := fun x vs H Q => ∃ l b xs zs, x = .ref l ∧ vs = [.ref b] ∧ H l = some (.lst xs) ∧ SqT K H b zs ∧ xs.length + zs.length ≤ sizeLine ∧ Q .non (upd H l (.lst (xs ++ zs)))
theorem ext_meets (l : Addr) (items : Array Value) (n : Nat) (b : Addr) (items2 : Array Value) (n2 : Nat) (dd2 : Option Addr) (sl2 : Array (Option Value)) (hs0 : ¬ (!items.isEmpty && Builtin.List.listTooLong (items.size + items2.size)) = true) (hs1 : items.size ≤ sizeLine) (hs2 : items.size + items2.size ≤ sizeLine + 1) :
    Meets (Builtin.«list.extend» ⟨[.ref l, .ref b], []⟩) (fun _ R s => s.heap.get? l = some { cls := .type "list", dict := none, data := .seq items n, slots := #[] } ∧ s.heap.get? b = some { cls := .type "tuple", dict := dd2, data := .seq items2 n2, slots := sl2 } ∧ R (.ok (.ret Value.none)) { s with heap := s.heap.update l (Obj.mapSeq fun x => x ++ items2), toks := s.toks }) :=
  .of_wp fun prog w A R s h => by
    obtain ⟨hp, g, d, tk, os⟩ := s; obtain ⟨hl, hb, h⟩ := h
    have f1 := AutoSeq1.idx_int; have f2 := AutoSeq1.sub_tuple_tuple; have f3 := AutoSeq1.sub_list_list; have f4 := AutoSeq1.sub_tuple_list; have f5 := AutoSeq1.sub_list_tuple
    have hw : (items ++ items2).size ≤ sizeLine + 1 := by rw [Array.size_append]; exact hs2
    wp_walk using (wpAny_updateSeq hl rfl (hz := hs1) (_hz' := hw)), wpAny_loadPart' hl, wpAny_loadPart' hb
    exact ⟨_, rfl, h⟩
theorem mt_extT : MtM X "list.extend" (rExtT X.K) := by
  intro pins s σ H x vs v us Q I rx rv ⟨l, b, xs, zs, e1, e2, hH, hB, hz, q⟩
  subst e1 e2
  cases rx
  obtain ⟨u, rfl, ru⟩ := rv.one
  cases ru
  obtain ⟨z, its, n, r, hl, e⟩ := I.lstM hH
  obtain ⟨its2, r2, ⟨⟨c2, dd2, da2, sl2⟩, ho, hc, n2, hd⟩, z2⟩ := I.tuple hB
  simp only at hc hd
  subst hc hd
  have hsz : its.toArray.size + its2.toArray.size ≤ sizeLine := by rw [List.size_toArray, List.size_toArray, ← r.length, ← r2.length]; exact hz
  have hlong : ¬ (!its.toArray.isEmpty && Builtin.List.listTooLong (its.toArray.size + its2.toArray.size)) = true := by
    rw [notLongL hsz, Bool.and_false]; exact Bool.false_ne_true
  refine call_meets F.slot_list_extend ⟨_, e, rfl⟩ F.entry_list_extend (F.args_list_extend_2 _ _) (ext_meets l its.toArray n b its2.toArray n2 dd2 sl2 hlong (by omega) (by omega)) ⟨e, ho, ?_⟩
  refine ⟨.non, _, I.lset (its' := its ++ its2) hH e (by simp) (r.append r2) (by rw [List.length_append]; exact hz), rfl, q⟩
def gExtT : GLm := fun ds xs => match xs with
  | [.p (.tup l)] => if ds.length + l.length ≤ sizeLine then some (ds ++ l, .non) else none
  | _ => none
theorem m_extT : LmD X "list.extend" gExtT := by
  intro ds xs ds' d e
  unfold gExtT at e
  split at e
  · next l =>
    split at e
    · next hz =>
      cases e
      refine MtR.imp mt_extT fun v vs H Q ⟨G, a, us, lG, e1, h1, h2, z, rl, q⟩ => ?_
      obtain ⟨w, S, rfl, hw⟩ := rl.one
      obtain ⟨b, ws, rfl, sq, z2⟩ := itemsT_of lG hw rfl
      exact ⟨a, b, us, ws, e1, rfl, h1, sq, by rw [z.length, z2.length]; exact hz, q .non _ (z.append z2) .non⟩
    · cases e
  · cases e
end
@[simp] theorem e_revT {fe fk : FE} {ρ : DS} : fRevT fe fk ρ = (fe ρ).bind fun p => (fk p.2).bind fun q => match q.1 with
  | .own (.p (.int i)) => if i = -1 then (res q.2 p.1).bind fun x => (itemsT x).map fun ds => (.own (.p (.tup ds.reverse)), q.2) else none
  | _ => none := rfl
@[simp] theorem e_catT {l m : List D} : gCatT (.p (.tup l)) (.p (.tup m)) = if l.length + m.length ≤ sizeLine then some (.p (.tup (l ++ m))) else none := rfl
@[simp] theorem e_extT {l m : List D} : gExtT l [.p (.tup m)] = if l.length + m.length ≤ sizeLine then some (l ++ m, .non) else none := rfl
end L2.CF
namespace L2.CF
open PySem PySem.Spec PyProof.Rows
variable {K : PySem.W.Frag}
@[elab_as_elim] theorem len0 {C : List Value → Prop} (us : List Value) (h : us.length = 0) (k : C []) : C us := by
  cases us with
  | nil => exact k
  | cons _ _ => cases h
@[elab_as_elim] theorem len1 {C : List Value → Prop} (us : List Value) (h : us.length = 1) (k : ∀ a, C [a]) : C us := by
  cases us with
  | nil => cases h
  | cons a t => cases t with | nil => exact k a | cons _ _ => simp at h
@[elab_as_elim] theorem len2 {C : List Value → Prop} (us : List Value) (h : us.length = 2) (k : ∀ a b, C [a, b]) : C us := by
  cases us with
  | nil => cases h
  | cons a t => exact len1 (C := fun t => C (a :: t)) t (by simpa using h) fun b => k a b
@[elab_as_elim] theorem len3 {C : List Value → Prop} (us : List Value) (h : us.length = 3) (k : ∀ a b c, C [a, b, c]) : C us := by
  cases us with
  | nil => cases h
  | cons a t => exact len2 (C := fun t => C (a :: t)) t (by simpa using h) fun b c => k a b c
@[elab_as_elim] theorem len4 {C : List Value → Prop} (us : List Value) (h : us.length = 4) (k : ∀ a b c d, C [a, b, c, d]) : C us := by
  cases us with
  | nil => cases h
  | cons a t => exact len3 (C := fun t => C (a :: t)) t (by simpa using h) fun b c d => k a b c d
section
variable {X : Cx}
end
end L2.CF
namespace L2.CF
open PySem PySem.Spec
section
variable {P i n j : Nat} {fo fe ff fi fb fk fa : FE} {ρ : DS} {d : D} {x y : RV} {g : GLm} {g2 : G2} {l m : List D} {a : Addr} {kvs : List (Key × D)}
@[simp] theorem e_ixSat {i : Int} : gIx (.S l a m) (.p (.int i)) = (atI l i).map .p := rfl
@[simp] theorem e_slotS : slotS ρ i = match ρ[i]? with
  | some (some (.S ds a ms)) => some (ds, a, ms)
  | _ => none := rfl
@[simp] theorem e_setS : sSetS fe fo fi ρ = (fe ρ).bind fun p => match p.1 with
  | .own (.p d) => (fo p.2).bind fun q => match q.1 with
    | .at i => (fi q.2).bind fun t => match t.1 with
      | .own (.p (.int k)) => (slotS t.2 i).bind fun z => (ixN z.1.length k).map fun j => (.nx, t.2.set i (some (.S (z.1.set j d) z.2.1 z.2.2)))
      | _ => none
    | _ => none
  | _ => none := rfl
@[simp] theorem e_lmS : fLmS g j fo ρ = (fo ρ).bind fun p => match p.1 with
  | .own (.p (.ptr a)) => (slotS p.2 j).bind fun z => if z.2.1 = a then (g z.2.2 []).map fun r => (.own (.p r.2), p.2.set j (some (.S z.1 a r.1))) else none
  | _ => none := rfl
@[simp] theorem e_cmpS : fCmpS g2 j fo fb ρ = (fo ρ).bind fun p => match p.1 with
  | .own (.p (.ptr a)) => (fb p.2).bind fun q => (slotS q.2 j).bind fun z => if z.2.1 = a then (res q.2 q.1).bind fun y => (g2 (.L z.2.2) y).map fun r => (.own r, q.2) else none
  | _ => none := rfl
@[simp] theorem e_lenSet : fLenSet fa ρ = (fa ρ).bind fun p => (res p.2 p.1).bind fun x => (gLenSet x).map fun r => (.own r, p.2) := rfl
@[simp] theorem e_gLenSet : gLenSet (.p (.tup l)) = (strsD l).bind fun ss => if ss.length < 60 then some (.p (.int (ded ss).length)) else none := rfl
@[simp] theorem e_inKI {neg : Bool} {k : Int} (h : itemsK y = some kvs) : gInK neg (.p (.int k)) y = some (.p (.bl (neg ^^ (valK kvs (.inl k)).isSome))) := by
  unfold gInK; rw [h]; rfl
@[simp] theorem e_inKS {neg : Bool} {k : Str} (h : itemsK y = some kvs) : gInK neg (.p (.str k)) y = some (.p (.bl (neg ^^ (valK kvs (.inr k)).isSome))) := by
  unfold gInK; rw [h]; rfl
@[simp] theorem e_mulL {k : Int} : gMulL (.L l) (.p (.int k)) = if 0 ≤ k ∧ k < 1000000 ∧ l.length * k.toNat ≤ sizeLine then some (.L (repD l k.toNat)) else none := rfl
@[simp] theorem e_reverse : gReverse l [] = some (l.reverse, .non) := rfl
@[simp] theorem e_rev : fRev fe fk ρ = (fe ρ).bind fun p => (fk p.2).bind fun q => match q.1 with
  | .own (.p (.int i)) => if i = -1 then (res q.2 p.1).bind fun x => (itemsL x).map fun ds => (.own (.L ds.reverse), q.2) else none
  | _ => none := rfl
@[simp] theorem e_min {i j : Int} : gMin [.p (.int i), .p (.int j)] = some (.p (.int (if j < i then j else i))) := rfl
@[simp] theorem e_lenSat : gLen [.S l a m] = some (.p (.int l.length)) := rfl
end
end L2.CF
namespace L2.CF
open PySem PySem.Spec
section
variable {fx : FEX} {ρ : DS}
end
end L2.CF
namespace LL
open PySem PySem.Spec L2 L2.CF
def Pot (ds : List D) : Prop := (∃ x, ds = [.int x]) ∨ ∃ x y, ds = [.int x, .int y]
noncomputable def m_take : FS := sSeq (sSet 2 2 (f2 gMod (f2 gIx (fVar 0) (f1 gNeg (fC (.int 1)))) (fVar 1))) (sSeq (sSetL (f2 gFdiv (f2 gIx (fVar 0) (f1 gNeg (fC (.int 1)))) (fVar 1)) (fVar 0) (f1 gNeg (fC (.int 1)))) (sSeq (sIf (fAnd (fT (f2 gEq (f2 gIx (fVar 0) (f1 gNeg (fC (.int 1)))) (fC (.int 0)))) (fT (f2 gGt (fCall gLen (fCons (fVar 0) (fNil))) (fC (.int 1))))) (sExpr (fLm gPop (fVar 0) fNil)) (sNext)) (sRet 2 (fVar 2))))
noncomputable def take : FF := runBody 3 m_take
theorem take_ok {ds : List D} {m : Int} (hp : Pot ds) (h0 : 0 < m) (h1 : m < 1073741824) : ∃ r ds', take [.L ds, .p (.int m)] = some (.p (.int r), [.L ds', .p (.int m)]) ∧ 0 ≤ r ∧ r < m ∧ Pot ds' := by
  rcases hp with ⟨x, rfl⟩ | ⟨x, y, rfl⟩
  · refine ⟨x % m, [.int (x / m)], ?_, Int.emod_nonneg _ (by omega), Int.emod_lt_of_pos _ h0, .inl ⟨_, rfl⟩⟩
    simp [take, m_take, atI, ixN, h0, h1]
  · by_cases hz : y / m = 0
    · refine ⟨y % m, [.int x], ?_, Int.emod_nonneg _ (by omega), Int.emod_lt_of_pos _ h0, .inl ⟨_, rfl⟩⟩
      simp [take, m_take, atI, ixN, h0, h1, hz]
    · refine ⟨y % m, [.int x, .int (y / m)], ?_, Int.emod_nonneg _ (by omega), Int.emod_lt_of_pos _ h0, .inr ⟨_, _, rfl⟩⟩
      simp [take, m_take, atI, ixN, h0, h1, hz]
noncomputable def m_value : FS := sSeq (sIf (fT (f2 gEq (fFn 2 take (fCons (fVar 0) (fCons (fC (.int 2)) (fNil)))) (fC (.int 0)))) (sRet 1 (fFn 2 take (fCons (fVar 0) (fCons (fC (.int 5)) (fNil))))) (sNext)) (sRet 1 (fFn 2 take (fCons (fVar 0) (fCons (f2 gPow (fC (.int 10)) (fC (.int 6))) (fNil)))))
noncomputable def value : FF := runBody 1 m_value
theorem value_ok {ds : List D} (hp : Pot ds) : ∃ r ds', value [.L ds] = some (.p (.int r), [.L ds']) ∧ 0 ≤ r ∧ r < 1000000 ∧ Pot ds' := by
  obtain ⟨a, d1, e1, _, _, p1⟩ := take_ok (m := 2) hp (by decide) (by decide)
  by_cases ha : a = 0
  · obtain ⟨b, d2, e2, h1, h2, p2⟩ := take_ok (m := 5) p1 (by decide) (by decide)
    exact ⟨b, d2, by simp [value, m_value, e1, e2, ha], h1, by omega, p2⟩
  · obtain ⟨b, d2, e2, h1, h2, p2⟩ := take_ok (m := 1000000) p1 (by decide) (by decide)
    exact ⟨b, d2, by simp [value, m_value, e1, e2, ha], h1, by omega, p2⟩
noncomputable def m_pot : FS := sSeq (sSet 2 2 (f2 gMod (f2 gAdd (fVar 0) (f2 gMulS (fC (.int 7919)) (f2 gAdd (fVar 1) (fC (.int 1))))) (fC (.int 2147483647)))) (sSeq (sSet 2 3 (fLst (fCons (fC (.int 0)) (fNil)))) (sSeq (sFor 2 (fiRange1 (fCons (fC (.int 24)) (fNil))) (gName' 2 4) (sSeq (sSet 2 2 (f2 gMod (f2 gAdd (f2 gAdd (f2 gAdd (f2 gMulS (fVar 2) (fVar 2)) (f2 gMulS (fC (.int 48271)) (fVar 2))) (f2 gMulS (fC (.int 3)) (fVar 4))) (fVar 1)) (fC (.int 2147483629)))) (sSetL (f2 gAdd (f2 gMulS (f2 gIx (fVar 3) (fC (.int 0))) (fC (.int 2147483629))) (fVar 2)) (fVar 3) (fC (.int 0))))) (sSeq (sIf (fT (f2 gGe (fVar 0) (f2 gPow (fC (.int 10)) (fC (.int 18))))) (sExpr (fLm gAppend (fVar 3) (fCons (fVar 0) (fNil)))) (sNext)) (sRet 2 (fVar 3)))))
noncomputable def pot : FF := runBody 5 m_pot
theorem mul_small {i j : Int} (h1 : 0 ≤ i) (h2 : i < 2147483647) : mulOk i j = true := by
  unfold mulOk
  exact decide_eq_true (.inl ⟨by omega, by omega⟩)
theorem mul_small' {i j : Int} (h1 : 0 ≤ j) (h2 : j < 2147483647) : mulOk i j = true := by
  unfold mulOk
  exact decide_eq_true (.inr ⟨by omega, by omega⟩)
noncomputable def potB : FS := sSeq (sSet 2 2 (f2 gMod (f2 gAdd (f2 gAdd (f2 gAdd (f2 gMulS (fVar 2) (fVar 2)) (f2 gMulS (fC (.int 48271)) (fVar 2))) (f2 gMulS (fC (.int 3)) (fVar 4))) (fVar 1)) (fC (.int 2147483629)))) (sSetL (f2 gAdd (f2 gMulS (f2 gIx (fVar 3) (fC (.int 0))) (fC (.int 2147483629))) (fVar 2)) (fVar 3) (fC (.int 0)))
theorem mem_range {n j : Nat} {d : D} (hd : ((List.range n).map fun (i : Nat) => D.int i)[j]? = some d) : d = .int j ∧ j < n := by
  rw [List.getElem?_map] at hd
  cases q : (List.range n)[j]? with
  | none => rw [q] at hd; cases hd
  | some i =>
    rw [q] at hd; cases hd
    obtain ⟨h1, h2⟩ := List.getElem?_eq_some_iff.mp q
    rw [List.length_range] at h1
    rw [List.getElem_range] at h2
    subst h2
    exact ⟨rfl, h1⟩
theorem pot_ok {c k : Int} (hk : 0 ≤ k) (hk2 : k < 1000) : ∃ ds, pot [.p (.int c), .p (.int k)] = some (.L ds, [.p (.int c), .p (.int k)]) ∧ Pot ds := by
  have st : ∀ (j : Nat) (d : D) (ρ : DS), ((List.range 24).map fun (i : Nat) => D.int i)[j]? = some d → (∃ m x t, 0 ≤ m ∧ m < 2147483647 ∧ ρ = [some (.p (.int c)), some (.p (.int k)), some (.p (.int m)), some (.L [.int x]), t]) →
      ∃ ρa ρb, gName' 2 4 d ρ = some ρa ∧ potB ρa = some (.nx, ρb) ∧ ∃ m x t, 0 ≤ m ∧ m < 2147483647 ∧ ρb = [some (.p (.int c)), some (.p (.int k)), some (.p (.int m)), some (.L [.int x]), t] := by
    intro j d ρ hd ⟨m, x, t, g1, g2, e⟩
    subst e
    obtain ⟨rfl, _⟩ := mem_range hd
    refine ⟨[some (.p (.int c)), some (.p (.int k)), some (.p (.int m)), some (.L [.int x]), some (.p (.int j))], [some (.p (.int c)), some (.p (.int k)), some (.p (.int ((m * m + 48271 * m + 3 * j + k) % 2147483629))), some (.L [.int (x * 2147483629 + (m * m + 48271 * m + 3 * j + k) % 2147483629)]), some (.p (.int j))], by simp, ?_, _, _, _, Int.emod_nonneg _ (by decide), Int.lt_trans (Int.emod_lt_of_pos _ (by decide)) (by decide), rfl⟩
    simp [potB, mul_small g1 g2, mul_small (show (0 : Int) ≤ 48271 by decide) (show (48271 : Int) < 2147483647 by decide), mul_small (show (0 : Int) ≤ 3 by decide) (show (3 : Int) < 2147483647 by decide), mul_small' (show (0 : Int) ≤ 2147483629 by decide) (show (2147483629 : Int) < 2147483647 by decide), atI, ixN]
  obtain ⟨ρ', h1, m, x, t, g1, g2, e⟩ := forD_inv (asg := gName' 2 4) (body := potB) (fun _ ρ => ∃ m x t, 0 ≤ m ∧ m < 2147483647 ∧ ρ = [some (.p (.int c)), some (.p (.int k)), some (.p (.int m)), some (.L [.int x]), t]) ((List.range 24).map fun (i : Nat) => D.int i) 0
    [some (.p (.int c)), some (.p (.int k)), some (.p (.int ((c + 7919 * (k + 1)) % 2147483647))), some (.L [.int 0]), none] ⟨_, _, _, Int.emod_nonneg _ (by decide), Int.emod_lt_of_pos _ (by decide), rfl⟩ (fun j d ρ hd h => st j d ρ hd h)
  subst e
  have em : m_pot = sSeq (sSet 2 2 (f2 gMod (f2 gAdd (fVar 0) (f2 gMulS (fC (.int 7919)) (f2 gAdd (fVar 1) (fC (.int 1))))) (fC (.int 2147483647)))) (sSeq (sSet 2 3 (fLst (fCons (fC (.int 0)) (fNil)))) (sSeq (sFor 2 (fiRange1 (fCons (fC (.int 24)) (fNil))) (gName' 2 4) potB) (sSeq (sIf (fT (f2 gGe (fVar 0) (f2 gPow (fC (.int 10)) (fC (.int 18))))) (sExpr (fLm gAppend (fVar 3) (fCons (fVar 0) (fNil)))) (sNext)) (sRet 2 (fVar 3))))) := rfl
  have hs1 : (1 : Nat) < sizeLine := by decide
  have hs2 : (1 : Nat) ≤ sizeLine := by decide
  by_cases hc : (1000000000000000000 : Int) ≤ c
  · refine ⟨[.int x, .int c], ?_, .inr ⟨_, _, rfl⟩⟩
    simp [pot, em, mul_small (show (0 : Int) ≤ 7919 by decide) (show (7919 : Int) < 2147483647 by decide), sFor, fiRange1, h1, hc, hs1, hs2]
  · refine ⟨[.int x], ?_, .inl ⟨_, rfl⟩⟩
    simp [pot, em, mul_small (show (0 : Int) ≤ 7919 by decide) (show (7919 : Int) < 2147483647 by decide), sFor, fiRange1, h1, hc, hs1, hs2]
end LL
namespace LL
open PySem PySem.Spec L2 L2.CF
def SOk (x : Str) : Prop := PyData.strOk x = true
theorem sok_of {s : String} : SOk (Str.ofString s) := by
  unfold SOk PyData.strOk
  rw [Str.ofString_eq_toList]
  simp only [Array.all_eq_true]
  intro i hi
  simp only [List.size_toArray, List.length_map] at hi
  simp only [List.getElem_toArray, List.getElem_map, decide_eq_true_eq]
  have h := (s.toList[i]).valid
  have e : (s.toList[i]).toNat = (s.toList[i]).val.toNat := rfl
  rw [e]
  rcases h with h | ⟨_, h⟩ <;> simp only [UInt32.toNat] at * <;> omega
theorem sok_mem {x : Str} : SOk x ↔ ∀ c ∈ x.cps.toList, c < 0x110000 := by
  unfold SOk PyData.strOk
  rw [← Array.all_toList]
  simp
  constructor
  · intro h c hc
    obtain ⟨i, hi, rfl⟩ := Array.mem_iff_getElem.mp hc
    exact h i hi
  · intro h i hi
    exact h _ (Array.getElem_mem hi)
theorem sok_app {x y : Str} (h1 : SOk x) (h2 : SOk y) : SOk (x ++ y) := by
  rw [sok_mem] at *
  intro c hc
  rw [PySem.W.KT.app_list, List.mem_append] at hc
  exact hc.elim (h1 c) (h2 c)
theorem sok_slice {x : Str} {lo hi : Option Int} (h : SOk x) : SOk (Txt.slice x lo hi) := by
  unfold Txt.slice
  split
  · exact h
  · rw [sok_mem] at *
    intro c hc
    simp only [List.mem_filterMap] at hc
    obtain ⟨i, _, hi⟩ := hc
    refine h c ?_
    rw [Array.mem_toList_iff]
    exact Array.mem_of_getElem? hi
def NL (b : Nat) (ds : List D) : Prop := ∃ ss : List Str, ds = ss.map .str ∧ ∀ s ∈ ss, SOk s ∧ s.length ≤ b
theorem NL.mono {b c : Nat} {ds : List D} (h : NL b ds) (l : b ≤ c) : NL c ds := let ⟨ss, e, q⟩ := h; ⟨ss, e, fun s hs => ⟨(q s hs).1, Nat.le_trans (q s hs).2 l⟩⟩
theorem toPys_strs : ∀ ss : List Str, toPys (ss.map D.str) = ss.map PyData.str
  | [] => rfl
  | s :: ss => by simp [toPys, toPy, toPys_strs ss]
theorem lay_strs : ∀ ss : List Str, (∀ s ∈ ss, SOk s) → PyData.canLayAll0 (ss.map PyData.str) = true
  | [], _ => by simp [PyData.canLayAll0]
  | s :: ss, h => by
    simp only [List.map_cons, PyData.canLayAll0, PyData.canLay0, Bool.and_eq_true]
    exact ⟨h s (by simp), lay_strs ss fun t ht => h t (by simp [ht])⟩
theorem dep_strs : ∀ ss : List Str, PyData.depthAll (ss.map PyData.str) = 0
  | [] => by simp [PyData.depthAll]
  | s :: ss => by simp [PyData.depthAll, PyData.depth, dep_strs ss]
theorem ok_strs {ss : List Str} (h : ∀ s ∈ ss, SOk s) : okD (.lst (ss.map D.str)) = true := by
  unfold okD
  simp only [toPy, toPys_strs, PyData.canLay0, PyData.depth, dep_strs, lay_strs ss h]
  decide
theorem NL.ok {b : Nat} {ds : List D} (h : NL b ds) : okD (.lst ds) = true := by
  obtain ⟨ss, rfl, h⟩ := h
  exact ok_strs fun s hs => (h s hs).1
theorem NL.nil {b : Nat} : NL b [] := ⟨[], rfl, by simp⟩
theorem NL.get {b : Nat} {ds : List D} {i : Nat} {d : D} (h : NL b ds) (e : ds[i]? = some d) : ∃ s, d = .str s ∧ SOk s ∧ s.length ≤ b := by
  obtain ⟨ss, rfl, h⟩ := h
  rw [List.getElem?_map] at e
  cases q : ss[i]? with
  | none => rw [q] at e; cases e
  | some s => rw [q] at e; cases e; exact ⟨s, rfl, h s (List.mem_of_getElem? q)⟩
theorem atI_in {α : Type} {l : List α} {i : Int} (h0 : 0 ≤ i) (h : i < l.length) : ∃ x, atI l i = some x ∧ l[i.toNat]? = some x := by
  have hi : i.toNat < l.length := by omega
  refine ⟨l[i.toNat], ?_, List.getElem?_eq_getElem hi⟩
  unfold atI ixN
  rw [if_pos h0, if_pos h]
  exact List.getElem?_eq_getElem hi
noncomputable def namesB : FS := (sSeq (sSet 2 4 (f2 gIx (fC (.str "abcdefghijklmnopqrstuvwxyz")) (fFn 2 take (fCons (fVar 0) (fCons (fC (.int 26)) (fNil)))))) (sSeq (sSet 2 5 (fSl (f2 gAdd (f2 gMulS (fVar 4) (f2 gAdd (fC (.int 1)) (fFn 2 take (fCons (fVar 0) (fCons (fC (.int 3)) (fNil)))))) (f2 gIx (fLst (fCons (fC (.str "")) (fCons (fC (.str "a")) (fCons (fC (.str "z")) (fNil))))) (fFn 2 take (fCons (fVar 0) (fCons (fC (.int 3)) (fNil)))))) foN (foS (fC (.int 4))))) (sIf (fT (f2 (gInN true) (fVar 5) (fVar 2))) (sExpr (fLm gAppend (fVar 2) (fCons (fVar 5) (fNil)))) (sNext))))
noncomputable def m_names : FS := sSeq (sSet 2 2 (fLst (fNil))) (sSeq (sFor 2 (fiRange1 (fCons (fVar 1) (fNil))) (gName' 2 3) namesB) (sRet 2 (fVar 2)))
noncomputable def names : FF := runBody 6 m_names
theorem letters_len : ("abcdefghijklmnopqrstuvwxyz" : Str).cps.toList.length = 26 := by decide +kernel
theorem letters_small : ∀ c ∈ ("abcdefghijklmnopqrstuvwxyz" : Str).cps.toList, c < 128 := by decide +kernel
theorem letters_fit : ("abcdefghijklmnopqrstuvwxyz" : Str).length ≤ sizeLine := by decide +kernel
theorem sok_one {c : Nat} (h : c < 128) : SOk ⟨#[c]⟩ := by rw [sok_mem]; simp; omega
theorem mul_one {c : Nat} {n : Int} (h0 : 0 ≤ n) (h : n < 3) (hc : c < 128) : mulLen ⟨#[c]⟩ (1 + n) = true ∧ SOk (Txt.mul ⟨#[c]⟩ (1 + n)) ∧ (Txt.mul ⟨#[c]⟩ (1 + n)).length ≤ 3 := by
  have hs := sizeLine_eq
  have h3 : n = 0 ∨ n = 1 ∨ n = 2 := by omega
  have l1 : (⟨#[c]⟩ : Str).length = 1 := rfl
  refine ⟨?_, ?_, ?_⟩
  · unfold mulLen
    rw [l1]
    exact decide_eq_true ⟨by omega, by omega, by omega, by omega⟩
  · rcases h3 with rfl | rfl | rfl
    · rw [show Txt.mul ⟨#[c]⟩ (1 + 0) = ⟨#[c]⟩ by simp [Txt.mul]]; exact sok_one hc
    · rw [show Txt.mul ⟨#[c]⟩ (1 + 1) = ⟨#[c, c]⟩ by simp [Txt.mul, l1, List.replicate]]; rw [sok_mem]; simp; omega
    · rw [show Txt.mul ⟨#[c]⟩ (1 + 2) = ⟨#[c, c, c]⟩ by simp [Txt.mul, l1, List.replicate]]; rw [sok_mem]; simp; omega
  · rcases h3 with rfl | rfl | rfl
    · rw [show Txt.mul ⟨#[c]⟩ (1 + 0) = ⟨#[c]⟩ by simp [Txt.mul]]; exact (show 1 ≤ 3 by decide)
    · rw [show Txt.mul ⟨#[c]⟩ (1 + 1) = ⟨#[c, c]⟩ by simp [Txt.mul, l1, List.replicate]]; exact (show 2 ≤ 3 by decide)
    · rw [show Txt.mul ⟨#[c]⟩ (1 + 2) = ⟨#[c, c, c]⟩ by simp [Txt.mul, l1, List.replicate]]; exact (show 3 ≤ 3 by decide)
end LL
namespace LL
open PySem PySem.Spec L2 L2.CF
end LL
namespace LL
open PySem PySem.Spec L2 L2.CF
inductive ET where
  | num (v : Int)
  | nam (s : Str)
  | bin (w : Str) (a b : ET)
def emb : ET → D
  | .num v => .tup [.str "number", .int v]
  | .nam s => .tup [.str "name", .str s]
  | .bin w a b => .tup [.str w, emb a, emb b]
def words : List Str := ["plus", "less", "times", "over", "rest", "under", "same"]
def wf : ET → Prop
  | .num v => 0 ≤ v ∧ v < 1000000
  | .nam s => SOk s ∧ s.length ≤ 20
  | .bin w a b => w ∈ words ∧ wf a ∧ wf b
def dep : ET → Nat
  | .num _ => 1
  | .nam _ => 1
  | .bin _ a b => 1 + max (dep a) (dep b)
theorem words_ok : ∀ w ∈ words, PyData.strOk w = true ∧ w ≠ ("number" : Str) ∧ w ≠ ("name" : Str) := by decide +kernel
noncomputable def m_drawn (FF_Ldrawn : FF) : FS := sSeq (sSet 3 3 (fFn 2 take (fCons (fVar 0) (fCons (fC (.int 12)) (fNil))))) (sSeq (sIf (fOr (fT (f2 gEq (fVar 2) (fC (.int 1)))) (fT (f2 gLt (fVar 3) (fC (.int 4))))) (sSeq (sIf (fAnd (fT (f2 gEq (f2 gMod (fVar 3) (fC (.int 2))) (fC (.int 0)))) (fT (f2 gNe (fVar 1) (fLst (fNil))))) (sRet 3 (fTupF 3 (fCons (fC (.str "name")) (fCons (f2 gIx (fVar 1) (fFn 2 take (fCons (fVar 0) (fCons (fCall gLen (fCons (fVar 1) (fNil))) (fNil))))) (fNil))))) (sNext)) (sRet 3 (fTupF 3 (fCons (fC (.str "number")) (fCons (fFn 1 value (fCons (fVar 0) (fNil))) (fNil)))))) (sNext)) (sSeq (sSet 3 4 (f2 gIx (fLst (fCons (fC (.str "plus")) (fCons (fC (.str "less")) (fCons (fC (.str "times")) (fCons (fC (.str "over")) (fCons (fC (.str "rest")) (fCons (fC (.str "under")) (fCons (fC (.str "same")) (fNil))))))))) (fFn 2 take (fCons (fVar 0) (fCons (fC (.int 7)) (fNil)))))) (sRet 3 (fTupF 3 (fCons (fVar 4) (fCons (fFn 3 FF_Ldrawn (fCons (fVar 0) (fCons (fVar 1) (fCons (f2 gSub (fVar 2) (fC (.int 1))) (fNil))))) (fCons (fFn 3 FF_Ldrawn (fCons (fVar 0) (fCons (fVar 1) (fCons (f2 gSub (fVar 2) (fC (.int 1))) (fNil))))) (fNil))))))))
noncomputable def drawn : Nat → FF
  | 0 => fun _ => none
  | n + 1 => runBody 5 (m_drawn (drawn n))
theorem eq_nil {ds : List D} : eqD (.lst ds) (.lst []) = ds.isEmpty := by cases ds <;> simp [eqD, toPy, toPys, PyData.eqv, PyData.eqvAll]
theorem ok_nil : okD (.lst []) = true := by simp [okD, toPy, toPys, PyData.canLay0, PyData.canLayAll0, PyData.depth, PyData.depthAll]
theorem drawn_ok : ∀ (n : Nat) {p ns : List D} {deep : Int}, Pot p → NL 20 ns → ns.length ≤ 12 → 1 ≤ deep → deep ≤ n → ∃ t p', drawn n [.L p, .L ns, .p (.int deep)] = some (.p (emb t), [.L p', .L ns, .p (.int deep)]) ∧ Pot p' ∧ wf t ∧ (dep t : Int) ≤ deep
  | 0, p, ns, deep, _, _, _, h1, h2 => by omega
  | n + 1, p, ns, deep, hp, hn, hl, h1, h2 => by
    obtain ⟨way, p1, e1, w0, w1, hp1⟩ := take_ok (m := 12) hp (by decide) (by decide)
    have okn := hn.ok
    have h7s : (7 : Nat) ≤ sizeLine := by decide
    by_cases hleaf : deep = 1 ∨ way < 4
    · have hdec : (decide (deep = 1) = true) ∨ (decide (way < 4) = true) := hleaf.imp decide_eq_true decide_eq_true
      by_cases hname : way % 2 = 0 ∧ ns ≠ []
      · have hpos : (0 : Int) < ns.length := by
          have : 0 < ns.length := List.length_pos_iff.mpr hname.2
          omega
        obtain ⟨r, p2, e2, r0, r1, hp2⟩ := take_ok (m := ns.length) hp1 hpos (by omega)
        obtain ⟨d, ed, em⟩ := atI_in (l := ns) r0 r1
        obtain ⟨s, rfl, s1, s2⟩ := hn.get em
        have hem : ns.isEmpty = false := by cases ns with | nil => exact absurd rfl hname.2 | cons _ _ => rfl
        refine ⟨.nam s, p2, ?_, hp2, ⟨s1, s2⟩, by simp [dep]; omega⟩
        by_cases hd1 : deep = 1
        · simp [drawn, m_drawn, emb, e1, hd1, hname.1, okn, ok_nil, eq_nil, hem, e2, ed]
        · have hw : way < 4 := hleaf.resolve_left hd1
          simp [drawn, m_drawn, emb, e1, hd1, hw, hname.1, okn, ok_nil, eq_nil, hem, e2, ed]
      · obtain ⟨v, p2, e2, v0, v1, hp2⟩ := value_ok hp1
        refine ⟨.num v, p2, ?_, hp2, ⟨v0, v1⟩, by simp [dep]; omega⟩
        by_cases hev : way % 2 = 0
        · have hem : ns = [] := by
            cases ns with
            | nil => rfl
            | cons _ _ => exact absurd ⟨hev, by simp⟩ hname
          subst hem
          by_cases hd1 : deep = 1
          · simp [drawn, m_drawn, emb, e1, hd1, hev, ok_nil, eq_nil, e2]
          · have hw : way < 4 := hleaf.resolve_left hd1
            simp [drawn, m_drawn, emb, e1, hd1, hw, hev, ok_nil, eq_nil, e2]
        · by_cases hd1 : deep = 1
          · simp [drawn, m_drawn, emb, e1, hd1, hev, e2]
          · have hw : way < 4 := hleaf.resolve_left hd1
            simp [drawn, m_drawn, emb, e1, hd1, hw, hev, e2]
    · have hd1 : ¬ deep = 1 := fun z => hleaf (.inl z)
      have hw : ¬ way < 4 := fun z => hleaf (.inr z)
      obtain ⟨r, p2, e2, r0, r1, hp2⟩ := take_ok (m := 7) hp1 (by decide) (by decide)
      obtain ⟨wd, ew, hwd⟩ : ∃ w : Str, atI [D.str "plus", D.str "less", D.str "times", D.str "over", D.str "rest", D.str "under", D.str "same"] r = some (.str w) ∧ w ∈ words := by
        have h3 : r = 0 ∨ r = 1 ∨ r = 2 ∨ r = 3 ∨ r = 4 ∨ r = 5 ∨ r = 6 := by omega
        rcases h3 with rfl | rfl | rfl | rfl | rfl | rfl | rfl <;> exact ⟨_, rfl, by simp [words]⟩
      obtain ⟨a, p3, e3, hp3, wa, da⟩ := drawn_ok n (deep := deep - 1) hp2 hn hl (by omega) (by omega)
      obtain ⟨b, p4, e4, hp4, wb, db⟩ := drawn_ok n (deep := deep - 1) hp3 hn hl (by omega) (by omega)
      refine ⟨.bin wd a b, p4, ?_, hp4, ⟨hwd, wa, wb⟩, by simp only [dep]; omega⟩
      have h3s : (3 : Nat) ≤ sizeLine := by decide
      simp [drawn, m_drawn, emb, e1, hd1, hw, e2, h7s, ew, e3, e4, h3s]
end LL
namespace LR
open PySem PySem.Spec L2 L2.CF LL
inductive RT where
  | set (n : Str) (e : ET)
  | say (e : ET)
  | call (h w : Str) (args : List ET) (m : Int)
  | whn (e : ET) (a b : List RT)
  | trn (e : ET) (a : List RT)
mutual
def embR : RT → D
  | .set n e => .tup [.str "set", .str n, emb e]
  | .say e => .tup [.str "say", emb e]
  | .call h w as m => .tup [.str "call", .str h, .str w, .tup (as.map emb), .int m]
  | .whn e a b => .tup [.str "when", emb e, .tup (embRs a), .tup (embRs b)]
  | .trn e a => .tup [.str "turn", emb e, .tup (embRs a)]
def embRs : List RT → List D
  | [] => []
  | r :: rs => embR r :: embRs rs
end
def wfE (e : ET) : Prop := wf e ∧ dep e ≤ 6
def okN (s : Str) : Prop := SOk s ∧ s.length ≤ 20
def lenB : Nat → Nat
  | 1 => 2
  | 2 => 3
  | 3 => 5
  | _ => 0
def wfR : Nat → RT → Prop
  | 0, _ => False
  | _ + 1, .set n e => okN n ∧ wfE e
  | _ + 1, .say e => wfE e
  | _ + 1, .call h w as m => okN h ∧ okN w ∧ as.length ≤ 4 ∧ (∀ e ∈ as, wfE e) ∧ 0 ≤ m ∧ m < 100
  | d + 1, .whn e a b => 1 ≤ d ∧ wfE e ∧ a.length ≤ lenB d ∧ b.length ≤ lenB d ∧ (∀ r ∈ a, wfR d r) ∧ ∀ r ∈ b, wfR d r
  | d + 1, .trn e a => 1 ≤ d ∧ wfE e ∧ a.length ≤ lenB d ∧ ∀ r ∈ a, wfR d r
structure DT where
  nm : Str
  ps : List Str
  rows : List RT
  give : ET
def embD (x : DT) : D := .tup [.str x.nm, .tup (x.ps.map .str), .tup (embRs x.rows), emb x.give]
structure wfD (x : DT) : Prop where
  nm : okN x.nm
  ps : x.ps.length ≤ 4 ∧ ∀ p ∈ x.ps, okN p
  rows : x.rows.length ≤ 5 ∧ ∀ r ∈ x.rows, wfR 3 r
  give : wfE x.give
def bookD (xs : List DT) : D := .tup (xs.map embD)
def layD (d : D) : Prop := (toPy d).canLay0 = true
def layDs (ds : List D) : Prop := PyData.canLayAll0 (toPys ds) = true
theorem lays_nil : layDs [] := rfl
theorem lays_cons {d : D} {ds : List D} (h : layD d) (t : layDs ds) : layDs (d :: ds) := by
  unfold layD at h
  unfold layDs at t ⊢
  simp [toPys, PyData.canLayAll0, h, t]
theorem lay_tup {ds : List D} (h : layDs ds) : layD (.tup ds) := by
  unfold layD
  simp only [toPy, PyData.canLay0]
  exact h
theorem lay_str {s : Str} (h : SOk s) : layD (.str s) := by
  unfold layD
  simp only [toPy, PyData.canLay0]
  exact h
theorem lay_int {i : Int} : layD (.int i) := rfl
theorem lay_emb : ∀ (t : ET), wf t → layD (emb t)
  | .num v, _ => lay_tup (lays_cons (lay_str sok_of) (lays_cons lay_int lays_nil))
  | .nam s, h => lay_tup (lays_cons (lay_str sok_of) (lays_cons (lay_str h.1) lays_nil))
  | .bin w a b, h => lay_tup (lays_cons (lay_str (words_ok w h.1).1) (lays_cons (lay_emb a h.2.1) (lays_cons (lay_emb b h.2.2) lays_nil)))
theorem lay_map {α : Type} {f : α → D} : ∀ {l : List α}, (∀ a ∈ l, layD (f a)) → layDs (l.map f)
  | [], _ => lays_nil
  | a :: l, h => lays_cons (h a (by simp)) (lay_map fun b hb => h b (by simp [hb]))
theorem lay_R : ∀ (d : Nat) (r : RT), wfR d r → layD (embR r)
  | 0, _, h => h.elim
  | d + 1, .set n e, h => lay_tup (lays_cons (lay_str sok_of) (lays_cons (lay_str h.1.1) (lays_cons (lay_emb e h.2.1) lays_nil)))
  | d + 1, .say e, h => lay_tup (lays_cons (lay_str sok_of) (lays_cons (lay_emb e h.1) lays_nil))
  | d + 1, .call hh w as m, h => lay_tup (lays_cons (lay_str sok_of) (lays_cons (lay_str h.1.1) (lays_cons (lay_str h.2.1.1) (lays_cons (lay_tup (lay_map fun e he => lay_emb e (h.2.2.2.1 e he).1)) (lays_cons lay_int lays_nil)))))
  | d + 1, .whn e a b, h => by
    obtain ⟨_, h1, _, _, h4, h5⟩ := h
    have key : ∀ (rs : List RT), (∀ r ∈ rs, wfR d r) → layDs (embRs rs) := by
      intro rs
      induction rs with
      | nil => intro _; exact lays_nil
      | cons r rs ih => intro hr; exact lays_cons (lay_R d r (hr r (by simp))) (ih fun r hr' => hr r (by simp [hr']))
    exact lay_tup (lays_cons (lay_str sok_of) (lays_cons (lay_emb e h1.1) (lays_cons (lay_tup (key a h4)) (lays_cons (lay_tup (key b h5)) lays_nil))))
  | d + 1, .trn e a, h => by
    obtain ⟨_, h1, _, h4⟩ := h
    have key : ∀ (rs : List RT), (∀ r ∈ rs, wfR d r) → layDs (embRs rs) := by
      intro rs
      induction rs with
      | nil => intro _; exact lays_nil
      | cons r rs ih => intro hr; exact lays_cons (lay_R d r (hr r (by simp))) (ih fun r hr' => hr r (by simp [hr']))
    exact lay_tup (lays_cons (lay_str sok_of) (lays_cons (lay_emb e h1.1) (lays_cons (lay_tup (key a h4)) lays_nil)))
def dpD (n : Nat) (d : D) : Prop := (toPy d).depth ≤ n
def dpDs (n : Nat) (ds : List D) : Prop := PyData.depthAll (toPys ds) ≤ n
theorem dps_nil {n : Nat} : dpDs n [] := by
  unfold dpDs
  simp [toPys, PyData.depthAll]
theorem dps_cons {n : Nat} {d : D} {ds : List D} (h : dpD n d) (t : dpDs n ds) : dpDs n (d :: ds) := by
  unfold dpD at h
  unfold dpDs at t ⊢
  simp only [toPys, PyData.depthAll]
  omega
theorem dp_tup {n : Nat} {ds : List D} (h : dpDs n ds) : dpD (n + 1) (.tup ds) := by
  unfold dpDs at h
  unfold dpD
  simp only [toPy, PyData.depth]
  omega
theorem dp_str {n : Nat} {s : Str} : dpD n (.str s) := by simp [dpD, toPy, PyData.depth]
theorem dp_int {n : Nat} {i : Int} : dpD n (.int i) := by simp [dpD, toPy, PyData.depth]
theorem dpD.mono {m n : Nat} {d : D} (h : dpD m d) (l : m ≤ n) : dpD n d := Nat.le_trans h l
theorem dp_emb : ∀ (t : ET), dpD (dep t) (emb t)
  | .num v => dp_tup (n := 0) (dps_cons dp_str (dps_cons dp_int dps_nil))
  | .nam s => dp_tup (n := 0) (dps_cons dp_str (dps_cons dp_str dps_nil))
  | .bin w a b => by
    have h1 := (dp_emb a).mono (Nat.le_max_left (dep a) (dep b))
    have h2 := (dp_emb b).mono (Nat.le_max_right (dep a) (dep b))
    have := dp_tup (dps_cons (dp_str (s := w)) (dps_cons h1 (dps_cons h2 dps_nil)))
    simp only [dep]
    rw [Nat.add_comm 1]
    exact this
theorem dp_map {α : Type} {n : Nat} {f : α → D} : ∀ {l : List α}, (∀ a ∈ l, dpD n (f a)) → dpDs n (l.map f)
  | [], _ => dps_nil
  | a :: l, h => dps_cons (h a (by simp)) (dp_map fun b hb => h b (by simp [hb]))
theorem dp_E {e : ET} (h : wfE e) {n : Nat} (hn : 6 ≤ n) : dpD n (emb e) := (dp_emb e).mono (Nat.le_trans h.2 hn)
theorem dp_R : ∀ (d : Nat) (r : RT), wfR d r → dpD (8 + 2 * d) (embR r)
  | 0, _, h => h.elim
  | d + 1, .set n e, h => (dp_tup (n := 6) (dps_cons dp_str (dps_cons dp_str (dps_cons (dp_E h.2 (by omega)) dps_nil)))).mono (by omega)
  | d + 1, .say e, h => (dp_tup (n := 6) (dps_cons dp_str (dps_cons (dp_E h (by omega)) dps_nil))).mono (by omega)
  | d + 1, .call hh w as m, h => (dp_tup (n := 7) (dps_cons dp_str (dps_cons dp_str (dps_cons dp_str (dps_cons (dp_tup (n := 6) (dp_map fun e he => dp_E (h.2.2.2.1 e he) (by omega))) (dps_cons dp_int dps_nil)))))).mono (by omega)
  | d + 1, .whn e a b, h => by
    obtain ⟨_, h1, _, _, h4, h5⟩ := h
    have key : ∀ (rs : List RT), (∀ r ∈ rs, wfR d r) → dpDs (8 + 2 * d) (embRs rs) := by
      intro rs
      induction rs with
      | nil => intro _; exact dps_nil
      | cons r rs ih => intro hr; exact dps_cons (dp_R d r (hr r (by simp))) (ih fun r hr' => hr r (by simp [hr']))
    exact (dp_tup (dps_cons dp_str (dps_cons (dp_E h1 (by omega)) (dps_cons (dp_tup (key a h4)) (dps_cons (dp_tup (key b h5)) dps_nil))))).mono (by omega)
  | d + 1, .trn e a, h => by
    obtain ⟨_, h1, _, h4⟩ := h
    have key : ∀ (rs : List RT), (∀ r ∈ rs, wfR d r) → dpDs (8 + 2 * d) (embRs rs) := by
      intro rs
      induction rs with
      | nil => intro _; exact dps_nil
      | cons r rs ih => intro hr; exact dps_cons (dp_R d r (hr r (by simp))) (ih fun r hr' => hr r (by simp [hr']))
    exact (dp_tup (dps_cons dp_str (dps_cons (dp_E h1 (by omega)) (dps_cons (dp_tup (key a h4)) dps_nil)))).mono (by omega)
end LR
namespace LS
open PySem PySem.Spec L2 L2.CF LL LR
theorem any_strs {s : Str} : ∀ (ps : List Str), ((ps.map D.str).any fun e => eqD e (.str s)) = decide (s ∈ ps)
  | [] => by simp
  | p :: ps => by
    simp only [List.map_cons, List.any_cons, any_strs ps, e_eqS, List.mem_cons, Bool.decide_or]
    by_cases h : p = s
    · simp [h]
    · have h' : ¬ s = p := fun q => h q.symm
      simp [h, h']
def WN (b : Nat) (ss : List Str) : Prop := ss.Nodup ∧ ∀ s ∈ ss, SOk s ∧ s.length ≤ b
theorem WN.nl {b : Nat} {ss : List Str} (h : WN b ss) : NL b (ss.map D.str) := ⟨ss, rfl, h.2⟩
theorem WN.snoc {b : Nat} {ss : List Str} {s : Str} (h : WN b ss) (h1 : SOk s) (h2 : s.length ≤ b) (h3 : s ∉ ss) : WN b (ss ++ [s]) := by
  refine ⟨List.nodup_append.mpr ⟨h.1, by simp, fun a ha c hc e => ?_⟩, fun t ht => ?_⟩
  · simp at hc; subst hc; subst e; exact h3 ha
  · rcases List.mem_append.mp ht with ht | ht
    · exact h.2 t ht
    · simp at ht; subst ht; exact ⟨h1, h2⟩
theorem names_nd {p : List D} {many : Int} (hp : Pot p) (h0 : 1 ≤ many) (h1 : many ≤ 6) : ∃ ss p', names [.L p, .p (.int many)] = some (.L (ss.map D.str), [.L p', .p (.int many)]) ∧ Pot p' ∧ WN 4 ss ∧ 0 < ss.length ∧ ss.length ≤ 6 := by
  have st : ∀ (j : Nat) (d : D) (ρ : DS), ((List.range many.toNat).map fun (i : Nat) => D.int i)[j]? = some d → (∃ p ss t u v, Pot p ∧ WN 4 ss ∧ ss.length ≤ j ∧ (0 < j → 0 < ss.length) ∧ ρ = [some (.L p), some (.p (.int many)), some (.L (ss.map D.str)), t, u, v]) →
      ∃ ρa ρb, gName' 2 3 d ρ = some ρa ∧ namesB ρa = some (.nx, ρb) ∧ ∃ p ss t u v, Pot p ∧ WN 4 ss ∧ ss.length ≤ j + 1 ∧ (0 < j + 1 → 0 < ss.length) ∧ ρb = [some (.L p), some (.p (.int many)), some (.L (ss.map D.str)), t, u, v] := by
    intro j d ρ hd ⟨p, ss, t, u, v, hp, hn, hl, hq, e⟩
    subst e
    obtain ⟨rfl, hj⟩ := mem_range hd
    obtain ⟨a, p1, e1, a0, a1, hp1⟩ := take_ok (m := 26) hp (by decide) (by decide)
    obtain ⟨b, p2, e2, b0, b1, hp2⟩ := take_ok (m := 3) hp1 (by decide) (by decide)
    obtain ⟨c, p3, e3, c0, c1, hp3⟩ := take_ok (m := 3) hp2 (by decide) (by decide)
    obtain ⟨ch, ec, em⟩ := atI_in (l := ("abcdefghijklmnopqrstuvwxyz" : Str).cps.toList) (i := a) a0 (by rw [letters_len]; omega)
    have hch := letters_small ch (List.mem_of_getElem? em)
    obtain ⟨m1, m2, m3⟩ := mul_one (c := ch) b0 b1 hch
    obtain ⟨w, ew, sw, lw⟩ : ∃ w : Str, atI [D.str "", D.str "a", D.str "z"] c = some (.str w) ∧ SOk w ∧ w.length ≤ 1 := by
      have h3 : c = 0 ∨ c = 1 ∨ c = 2 := by omega
      rcases h3 with rfl | rfl | rfl
      · exact ⟨_, rfl, sok_of, by decide +kernel⟩
      · exact ⟨_, rfl, sok_of, by decide +kernel⟩
      · exact ⟨_, rfl, sok_of, by decide +kernel⟩
    have hs := sizeLine_eq
    have la : (Txt.mul ⟨#[ch]⟩ (1 + b)).length + w.length ≤ sizeLine := by omega
    have ls : (Txt.mul ⟨#[ch]⟩ (1 + b) ++ w).length ≤ 4 := by rw [Str.length_append]; omega
    have sn : SOk (Txt.slice (Txt.mul ⟨#[ch]⟩ (1 + b) ++ w) none (some 4)) := sok_slice (sok_app m2 sw)
    have ln := Txt.slice_le (Txt.mul ⟨#[ch]⟩ (1 + b) ++ w) none (some 4)
    have lsz : (Txt.mul ⟨#[ch]⟩ (1 + b) ++ w).length ≤ sizeLine := by omega
    have h3s : (3 : Nat) ≤ sizeLine := by decide
    have okn : okD (.lst (ss.map D.str)) = true := hn.nl.ok
    have lds : ss.length < sizeLine := by omega
    generalize hN : Txt.slice (Txt.mul ⟨#[ch]⟩ (1 + b) ++ w) none (some 4) = nm at sn ln
    have sn' : PyData.strOk nm = true := sn
    have hany := any_strs (s := nm) ss
    refine ⟨[some (.L p), some (.p (.int many)), some (.L (ss.map D.str)), some (.p (.int j)), u, v], ?_⟩
    by_cases hin : nm ∈ ss
    · refine ⟨[some (.L p3), some (.p (.int many)), some (.L (ss.map D.str)), some (.p (.int j)), some (.p (.str ⟨#[ch]⟩)), some (.p (.str nm))], by simp, ?_, p3, ss, _, _, _, hp3, hn, by omega, fun _ => List.length_pos_of_mem hin, rfl⟩
      simp only [hin, decide_true] at hany
      simp only [namesB]
      simp [-List.any_map, e1, e2, e3, letters_fit, ec, m1, ew, la, lsz, hN, h3s, gInN, okn, sn', hany]
    · refine ⟨[some (.L p3), some (.p (.int many)), some (.L ((ss ++ [nm]).map D.str)), some (.p (.int j)), some (.p (.str ⟨#[ch]⟩)), some (.p (.str nm))], by simp, ?_, p3, ss ++ [nm], _, _, _, hp3, hn.snoc sn (by omega) hin, by simp; omega, fun _ => by simp, rfl⟩
      simp only [hin, decide_false] at hany
      simp only [namesB]
      simp [-List.any_map, e1, e2, e3, letters_fit, ec, m1, ew, la, lsz, hN, h3s, gInN, okn, sn', hany, lds]
  obtain ⟨ρ', h2, p', ss, t, u, v, g1, g2, g3, g4, e⟩ := forD_inv (asg := gName' 2 3) (body := namesB) (fun j ρ => ∃ p ss t u v, Pot p ∧ WN 4 ss ∧ ss.length ≤ j ∧ (0 < j → 0 < ss.length) ∧ ρ = [some (.L p), some (.p (.int many)), some (.L (ss.map D.str)), t, u, v]) ((List.range many.toNat).map fun (i : Nat) => D.int i) 0
    [some (.L p), some (.p (.int many)), some (.L []), none, none, none] ⟨p, [], none, none, none, hp, ⟨by simp, by simp⟩, Nat.le_refl _, fun h => absurd h (by omega), rfl⟩ (fun j d ρ hd h => by simpa using st j d ρ hd (by simpa using h))
  subst e
  rw [List.length_map, List.length_range] at g3 g4
  refine ⟨ss, p', ?_, g1, g2, g4 (by omega), by omega⟩
  have hm : many < 4611686018427387904 := by omega
  have hm2 : -4611686018427387904 ≤ many := by omega
  simp [names, m_names, sFor, fiRange1, hm, hm2, h2]
theorem mul_len {c : Nat} {n : Nat} (h0 : 0 < n) : (Txt.mul ⟨#[c]⟩ (n : Int)).cps.toList = List.replicate n c := by
  unfold Txt.mul
  have h1 : ¬ (n : Int) < 1 := by omega
  rw [if_neg h1]
  by_cases h2 : n = 1
  · subst h2; rfl
  · have e2 : (((n : Int) == 1) || ((⟨#[c]⟩ : Str).length == 0)) = false := by
      have : ¬ (n : Int) = 1 := by omega
      simp [this, Str.length]
    rw [e2]
    simp only [Bool.false_eq_true, if_false, Int.toNat_natCast]
    have key : ∀ (k : Nat) (acc : Array Nat), ((List.replicate k #[c]).foldl (· ++ ·) acc).toList = acc.toList ++ List.replicate k c := by
      intro k
      induction k with
      | zero => intro acc; simp
      | succ k ih => intro acc; rw [List.replicate_succ, List.foldl_cons, ih, List.replicate_succ]; simp
    exact (key n #[]).trans (by simp)
end LS
namespace LR
open PySem PySem.Spec L2 L2.CF LL LS
mutual
def clsR : RT → List (Str × Nat × Int)
  | .call _ w as m => [(w, as.length, m)]
  | .whn _ a b => clsRs a ++ clsRs b
  | .trn _ a => clsRs a
  | _ => []
def clsRs : List RT → List (Str × Nat × Int)
  | [] => []
  | r :: rs => clsR r ++ clsRs rs
end
theorem cls_app : ∀ (a b : List RT), clsRs (a ++ b) = clsRs a ++ clsRs b
  | [], _ => rfl
  | r :: a, b => by simp only [List.cons_append, clsRs, cls_app a b, List.append_assoc]
theorem embs_app : ∀ (a b : List RT), embRs (a ++ b) = embRs a ++ embRs b
  | [], _ => rfl
  | r :: a, b => by simp only [List.cons_append, embRs, embs_app a b]
theorem embs_len : ∀ (a : List RT), (embRs a).length = a.length
  | [] => rfl
  | r :: a => by simp only [embRs, List.length_cons, embs_len a]
def mrk (c : Str × Nat × Int) : Int := c.2.2
def Took (ms ms' : List Int) (cs : List (Str × Nat × Int)) : Prop := ms = ms' ++ (cs.map mrk).reverse
theorem Took.nil {ms : List Int} : Took ms ms [] := by simp [Took]
theorem Took.trans {ms m1 m2 : List Int} {c1 c2 : List (Str × Nat × Int)} (a : Took ms m1 c1) (b : Took m1 m2 c2) : Took ms m2 (c1 ++ c2) := by
  unfold Took at *
  rw [a, b]
  simp
def Fit (hs : List (Str × List Str)) (cs : List (Str × Nat × Int)) : Prop := ∀ c ∈ cs, ∃ h ∈ hs, h.1 = c.1 ∧ h.2.length = c.2.1
theorem Fit.app {hs : List (Str × List Str)} {a b : List (Str × Nat × Int)} (h1 : Fit hs a) (h2 : Fit hs b) : Fit hs (a ++ b) := fun c hc => (List.mem_append.mp hc).elim (h1 c) (h2 c)
theorem Fit.nil {hs : List (Str × List Str)} : Fit hs [] := fun c hc => by simp at hc
end LR
namespace LR
open PySem PySem.Spec L2 L2.CF LL LS
mutual
def flatR : RT → List RT
  | .whn e a b => .whn e a b :: (flatRs a ++ flatRs b)
  | .trn e a => .trn e a :: flatRs a
  | r => [r]
def flatRs : List RT → List RT
  | [] => []
  | r :: rs => flatR r ++ flatRs rs
end
def isC : RT → Bool
  | .call _ _ _ _ => true
  | _ => false
def cOf : RT → Str × Nat × Int
  | .call _ w as m => (w, as.length, m)
  | _ => ("", 0, 0)
mutual
theorem flat_cls : ∀ r : RT, ((flatR r).filter isC).map cOf = clsR r
  | .whn e a b => by simp [flatR, isC, clsR, flats_cls a, flats_cls b]
  | .trn e a => by simp [flatR, isC, clsR, flats_cls a]
  | .set _ _ => by simp [flatR, isC, clsR]
  | .say _ => by simp [flatR, isC, clsR]
  | .call _ _ _ _ => by simp only [flatR, clsR]; rfl
theorem flats_cls : ∀ rs : List RT, ((flatRs rs).filter isC).map cOf = clsRs rs
  | [] => by simp [flatRs, clsRs]
  | r :: rs => by simp [flatRs, clsRs, flat_cls r, flats_cls rs]
end
def fl : Nat → Nat
  | 0 => 0
  | d + 1 => 1 + 2 * (lenB d * fl d)
theorem flat_len : ∀ (d : Nat) (r : RT), wfR d r → (flatR r).length ≤ fl d
  | 0, _, h => h.elim
  | d + 1, .set n e, _ => by simp only [flatR, fl, List.length_singleton]; omega
  | d + 1, .say e, _ => by simp only [flatR, fl, List.length_singleton]; omega
  | d + 1, .call h w as m, _ => by simp only [flatR, fl, List.length_singleton]; omega
  | d + 1, .whn e a b, h => by
    obtain ⟨_, _, h1, h2, h3, h4⟩ := h
    have key : ∀ (rs : List RT), (∀ r ∈ rs, wfR d r) → (flatRs rs).length ≤ rs.length * fl d := by
      intro rs
      induction rs with
      | nil => intro _; simp [flatRs]
      | cons r rs ih =>
        intro hr
        have := flat_len d r (hr r (by simp))
        have := ih fun r hr' => hr r (by simp [hr'])
        simp only [flatRs, List.length_append, List.length_cons, Nat.succ_mul]
        omega
    have k1 := key a h3
    have k2 := key b h4
    have m1 : a.length * fl d ≤ lenB d * fl d := Nat.mul_le_mul_right _ h1
    have m2 : b.length * fl d ≤ lenB d * fl d := Nat.mul_le_mul_right _ h2
    simp only [flatR, fl, List.length_cons, List.length_append]
    omega
  | d + 1, .trn e a, h => by
    obtain ⟨_, _, h1, h3⟩ := h
    have key : ∀ (rs : List RT), (∀ r ∈ rs, wfR d r) → (flatRs rs).length ≤ rs.length * fl d := by
      intro rs
      induction rs with
      | nil => intro _; simp [flatRs]
      | cons r rs ih =>
        intro hr
        have := flat_len d r (hr r (by simp))
        have := ih fun r hr' => hr r (by simp [hr'])
        simp only [flatRs, List.length_append, List.length_cons, Nat.succ_mul]
        omega
    have k1 := key a h3
    have m1 : a.length * fl d ≤ lenB d * fl d := Nat.mul_le_mul_right _ h1
    simp only [flatR, fl, List.length_cons]
    omega
theorem flats_len {d : Nat} : ∀ (rs : List RT), (∀ r ∈ rs, wfR d r) → (flatRs rs).length ≤ rs.length * fl d
  | [], _ => by simp [flatRs]
  | r :: rs, h => by
    have := flat_len d r (h r (by simp))
    have := flats_len rs fun r hr' => h r (by simp [hr'])
    simp only [flatRs, List.length_append, List.length_cons, Nat.succ_mul]
    omega
theorem valK_none {kvs : List (Key × D)} {k : Key} (h : k ∉ kvs.map (·.1)) : valK kvs k = none := by
  unfold valK
  rw [List.find?_eq_none.mpr fun x hx => ?_]
  · rfl
  · simp only [decide_eq_true_eq]
    intro e
    exact h (by rw [← e]; exact List.mem_map_of_mem hx)
theorem valK_in {kvs : List (Key × D)} {k : Key} {d : D} (nd : (kvs.map (·.1)).Nodup) (h : (k, d) ∈ kvs) : valK kvs k = some d := by
  induction kvs with
  | nil => simp at h
  | cons x kvs ih =>
    simp only [List.map_cons, List.nodup_cons] at nd
    rcases List.mem_cons.mp h with rfl | h
    · simp [valK]
    · have : ¬ x.1 = k := fun e => nd.1 (by rw [e]; exact List.mem_map_of_mem (f := (·.1)) h)
      have ih := ih nd.2 h
      unfold valK at ih ⊢
      rw [List.find?_cons_of_neg (by simpa using this)]
      exact ih
theorem putD_new {kvs : List (Key × D)} {k : Key} {v : D} (h : k ∉ kvs.map (·.1)) : putD kvs k v = kvs ++ [(k, v)] := by
  unfold putD
  rw [if_neg]
  simp only [List.any_eq_true, decide_eq_true_eq, not_exists, not_and]
  intro x hx e
  exact h (by rw [← e]; exact List.mem_map_of_mem hx)
end LR
namespace LR
open PySem PySem.Spec L2 L2.CF LL LS
def okR (r : RT) : Prop := ∃ d, d ≤ 3 ∧ wfR d r
theorem embs_map : ∀ (rs : List RT), embRs rs = rs.map embR
  | [] => rfl
  | r :: rs => by simp only [embRs, List.map_cons, embs_map rs]
theorem ok_lst {ds : List D} (h1 : layDs ds) (h2 : dpDs 30 ds) : okD (.lst ds) = true := by
  unfold layDs at h1
  unfold dpDs at h2
  unfold okD
  simp only [toPy, PyData.canLay0, PyData.depth, h1]
  simp
  omega
theorem eq_lst {ds : List D} (h1 : layDs ds) : eqD (.lst ds) (.lst ds) = true := by
  unfold layDs at h1
  refine SeqAt.eqv_refl _ ?_
  simpa only [toPy, PyData.canLay0] using h1
theorem lay_okR {rs : List RT} (h : ∀ r ∈ rs, okR r) : layDs (embRs rs) := by
  rw [embs_map]
  exact lay_map fun r hr => let ⟨d, _, w⟩ := h r hr; lay_R d r w
theorem dp_okR {rs : List RT} (h : ∀ r ∈ rs, okR r) : dpDs 30 (embRs rs) := by
  rw [embs_map]
  exact dp_map fun r hr => by
    obtain ⟨d, hd, w⟩ := h r hr
    exact (dp_R d r w).mono (by omega)
theorem ok_rows {rs : List RT} (h : ∀ r ∈ rs, okR r) : okD (.lst (embRs rs)) = true := ok_lst (lay_okR h) (dp_okR h)
theorem eq_rows {rs : List RT} (h : ∀ r ∈ rs, okR r) : eqD (.lst (embRs rs)) (.lst (embRs rs)) = true := eq_lst (lay_okR h)
mutual
theorem flat_okR : ∀ (d : Nat), d ≤ 3 → ∀ r, wfR d r → ∀ q ∈ flatR r, okR q
  | 0, _, _, h => h.elim
  | d + 1, hd, .set n e, h => fun q hq => by simp [flatR] at hq; subst hq; exact ⟨d + 1, hd, h⟩
  | d + 1, hd, .say e, h => fun q hq => by simp [flatR] at hq; subst hq; exact ⟨d + 1, hd, h⟩
  | d + 1, hd, .call a b c m, h => fun q hq => by simp [flatR] at hq; subst hq; exact ⟨d + 1, hd, h⟩
  | d + 1, hd, .whn e a b, h => fun q hq => by
    have h' := h
    obtain ⟨_, _, _, _, h3, h4⟩ := h
    simp only [flatR, List.mem_cons, List.mem_append] at hq
    rcases hq with rfl | hq | hq
    · exact ⟨d + 1, hd, h'⟩
    · exact flats_okR d (by omega) a h3 q hq
    · exact flats_okR d (by omega) b h4 q hq
  | d + 1, hd, .trn e a, h => fun q hq => by
    have h' := h
    obtain ⟨_, _, _, h3⟩ := h
    simp only [flatR, List.mem_cons] at hq
    rcases hq with rfl | hq
    · exact ⟨d + 1, hd, h'⟩
    · exact flats_okR d (by omega) a h3 q hq
theorem flats_okR : ∀ (d : Nat), d ≤ 3 → ∀ rs, (∀ r ∈ rs, wfR d r) → ∀ q ∈ flatRs rs, okR q
  | _, _, [], _ => fun q hq => by simp [flatRs] at hq
  | d, hd, r :: rs, h => fun q hq => by
    simp only [flatRs, List.mem_append] at hq
    rcases hq with hq | hq
    · exact flat_okR d hd r (h r (by simp)) q hq
    · exact flats_okR d hd rs (fun r hr => h r (by simp [hr])) q hq
end
def mcD (c : Str × Nat × Int) : D := .tup [.int c.2.2, .str c.1]
theorem ok_mcs {cs : List (Str × Nat × Int)} (h : ∀ c ∈ cs, SOk c.1) : okD (.lst (cs.map mcD)) = true ∧ eqD (.lst (cs.map mcD)) (.lst (cs.map mcD)) = true := by
  have l : layDs (cs.map mcD) := lay_map fun c hc => lay_tup (lays_cons lay_int (lays_cons (lay_str (h c hc)) lays_nil))
  have d : dpDs 30 (cs.map mcD) := dp_map fun c hc => (dp_tup (n := 0) (dps_cons dp_int (dps_cons dp_str dps_nil))).mono (by omega)
  exact ⟨ok_lst l d, eq_lst l⟩
theorem cls_sok {rs : List RT} (h : ∀ r ∈ rs, okR r) : ∀ c ∈ (rs.filter isC).map cOf, SOk c.1 := fun c hc => by
  obtain ⟨r, hr, rfl⟩ := List.mem_map.mp hc
  obtain ⟨h1, h2⟩ := List.mem_filter.mp hr
  obtain ⟨d, _, w⟩ := h r h1
  cases r with
  | call a b as m =>
    cases d with
    | zero => exact w.elim
    | succ d => exact w.2.1.1
  | _ => exact nomatch h2
end LR
namespace K08
open PySem PySem.Spec L2 L2.CF
variable {K : PySem.W.Frag} {Pg : Program} {w : World} {mg : Str → Option Value} {base : Heap}
def top (i : Nat) : Stmt := PySem.Challenge.pw_callfold_k08_rows_and_calls_read.main.body.getD i (.Pass ⟨0, 0, 0, 0⟩)
structure Txt (K : PySem.W.Frag) (mg : Str → Option Value) : Prop where
  b_enumerate : mg "enumerate" = none
  b_int : mg "int" = none
  b_isinstance : mg "isinstance" = none
  b_len : mg "len" = none
  b_list : mg "list" = none
  b_min : mg "min" = none
  b_range : mg "range" = none
  b_set : mg "set" = none
  b_tuple : mg "tuple" = none
abbrev s_refuse_like_names : Stmt := top 7
theorem sc_refuse_like_names : FnScope ["book", "ahead", "deed", "name", "params"] ["book"] (defScope s_refuse_like_names) := ⟨rfl, rfl, rfl, by decide +kernel, rfl, by decide +kernel, by decide +kernel⟩
noncomputable def m_refuse_like_names : FS := sSeq (sSet 1 1 (fDict0)) (sFor 1 (fiSeq (fVar 0)) (gName' 1 2) (sSeq (sSet 1 3 (f2 gIx (fVar 2) (fC (.int 0)))) (sSeq (sSet 1 4 (f2 gIx (fVar 2) (fC (.int 1)))) (sSeq (sIf (fT (f2 (gInK false) (fVar 3) (fVar 1))) ((fun _ => none)) (sNext)) (sSeq (sIf (fT (f2 gLt (fLenSet (fVar 4)) (fCall gLen (fCons (fVar 4) (fNil))))) ((fun _ => none)) (sNext)) (sPutK (fVar 1) (fVar 3) (fC (.bl true))))))))
noncomputable def FF_refuse_like_names : FF := runBody 5 m_refuse_like_names
instance : KpF FF_refuse_like_names := inferInstanceAs (KpF (runBody _ _))
set_option maxHeartbeats 2000000 in
theorem ok_refuse_like_names (T : Txt K mg) {f_refuse_like_names : Addr} {fd_refuse_like_names : FuncData} (C_refuse_like_names : Ce K mg "refuse_like_names" s_refuse_like_names f_refuse_like_names fd_refuse_like_names ["book"])  : FnD Pg w K mg base 1 f_refuse_like_names fd_refuse_like_names ["book"] FF_refuse_like_names := by
  have z := fun hb => fn_data (Pg := Pg) (w := w) (mg := mg) (base := base) (k := 0) (m := m_refuse_like_names) C_refuse_like_names.fn sc_refuse_like_names hb
  refine z (fun cdv A outer s H E hr => ?_)
  have hu := hr.units
  unfold m_refuse_like_names
  refine ds_cons ?_ ?_
  · refine @ds_set _ _ _ _ _ 1 _ _ sc_refuse_like_names.nd rfl (Or.inl rfl) ?_ inferInstance rfl (.inl rfl)
    exact de_dict0
  refine ds_one ?_
  refine ds_for PassesOwn.never rfl ?_ ?_ ?_
  · exact di_seq (dv 0)
  · exact dg_name (i := 2) sc_refuse_like_names.nd
  · refine ds_cons ?_ ?_
    · refine @ds_set _ _ _ _ _ 3 _ _ sc_refuse_like_names.nd rfl (Or.inl rfl) ?_ inferInstance rfl (.inl rfl)
      exact de_ix o_ix (dv 2) de_int
    refine ds_cons ?_ ?_
    · refine @ds_set _ _ _ _ _ 4 _ _ sc_refuse_like_names.nd rfl (Or.inl rfl) ?_ inferInstance rfl (.inl rfl)
      exact de_ix o_ix (dv 2) de_int
    refine ds_cons ?_ ?_
    · refine ds_if ?_ ?_ ds_nil
      · exact dt_cmp (o_inK hu) gInK_bl (dv 3) (dv 1)
      · refine ds_one ?_
        exact ds_never
    refine ds_cons ?_ ?_
    · refine ds_if ?_ ?_ ds_nil
      · refine dt_cmp o_lt gI_bl ?_ ?_
        · exact de_lenSet rfl rfl T.b_len rfl T.b_set (dv 4)
        · refine de_callB c_len rfl T.b_len bt_len ?_
          exact da_cons (dv 4) da_nil
      · refine ds_one ?_
        exact ds_never
    refine ds_one ?_
    exact ds_putK hu (dv 1) (dv 3) de_bl
abbrev s_inner_parts : Stmt := top 12
theorem sc_inner_parts : FnScope ["row"] ["row"] (defScope s_inner_parts) := ⟨rfl, rfl, rfl, by decide +kernel, rfl, by decide +kernel, by decide +kernel⟩
noncomputable def m_inner_parts : FS := sSeq (sIf (fT (f2 gEq (f2 gIx (fVar 0) (fC (.int 0))) (fC (.str "when")))) (sRet 1 (fLst (fCons (f2 gIx (fVar 0) (fC (.int 2))) (fCons (f2 gIx (fVar 0) (fC (.int 3))) (fNil))))) (sNext)) (sSeq (sIf (fT (f2 gEq (f2 gIx (fVar 0) (fC (.int 0))) (fC (.str "turn")))) (sRet 1 (fLst (fCons (f2 gIx (fVar 0) (fC (.int 2))) (fNil)))) (sNext)) (sRet 1 (fLst (fNil))))
noncomputable def FF_inner_parts : FF := runBody 1 m_inner_parts
instance : KpF FF_inner_parts := inferInstanceAs (KpF (runBody _ _))
set_option maxHeartbeats 2000000 in
theorem ok_inner_parts (T : Txt K mg) {f_inner_parts : Addr} {fd_inner_parts : FuncData} (C_inner_parts : Ce K mg "inner_parts" s_inner_parts f_inner_parts fd_inner_parts ["row"])  : FnD Pg w K mg base 1 f_inner_parts fd_inner_parts ["row"] FF_inner_parts := by
  have z := fun hb => fn_data (Pg := Pg) (w := w) (mg := mg) (base := base) (k := 0) (m := m_inner_parts) C_inner_parts.fn sc_inner_parts hb
  refine z (fun cdv A outer s H E hr => ?_)
  have hu := hr.units
  unfold m_inner_parts
  refine ds_cons ?_ ?_
  · refine ds_if ?_ ?_ ds_nil
    · refine dt_cmp (o_eq hu) gEqN_bl ?_ de_str
      exact de_ix o_ix (dv 0) de_int
    · refine ds_one ?_
      refine ds_ret ?_
      refine de_lst ?_
      refine da_cons ?_ ?_
      · exact de_ix o_ix (dv 0) de_int
      · refine da_cons ?_ da_nil
        exact de_ix o_ix (dv 0) de_int
  refine ds_cons ?_ ?_
  · refine ds_if ?_ ?_ ds_nil
    · refine dt_cmp (o_eq hu) gEqN_bl ?_ de_str
      exact de_ix o_ix (dv 0) de_int
    · refine ds_one ?_
      refine ds_ret ?_
      refine de_lst ?_
      refine da_cons ?_ da_nil
      exact de_ix o_ix (dv 0) de_int
  refine ds_one ?_
  refine ds_ret ?_
  exact de_lst da_nil
abbrev s_rows_and_inner : Stmt := top 11
theorem sc_rows_and_inner : FnScope ["rows", "found", "row", "part"] ["rows"] (defScope s_rows_and_inner) := ⟨rfl, rfl, rfl, by decide +kernel, rfl, by decide +kernel, by decide +kernel⟩
noncomputable def m_rows_and_inner (FF_rows_and_inner : FF) : FS := sSeq (sSet 1 1 (fLst (fNil))) (sSeq (sFor 1 (fiSeq (fVar 0)) (gName' 1 2) (sSeq (sExpr (fLm gAppend (fVar 1) (fCons (fVar 2) (fNil)))) (sFor 1 (fiSeq (fFn 1 FF_inner_parts (fCons (fVar 2) (fNil)))) (gName' 1 3) (sExpr (fLm gExtend (fVar 1) (fCons (fFn 1 FF_rows_and_inner (fCons (fVar 3) (fNil))) (fNil))))))) (sRet 1 (fVar 1)))
noncomputable def FF_rows_and_inner : Nat → FF
  | 0 => fun _ => none
  | n + 1 => runBody 4 (m_rows_and_inner (FF_rows_and_inner n))
instance {n : Nat} : KpF (FF_rows_and_inner n) := by cases n with | zero => exact ⟨fun _ _ _ h => by cases h⟩ | succ n => exact inferInstanceAs (KpF (runBody _ _))
set_option maxHeartbeats 2000000 in
theorem ok_rows_and_inner (T : Txt K mg) {f_rows_and_inner : Addr} {fd_rows_and_inner : FuncData} (C_rows_and_inner : Ce K mg "rows_and_inner" s_rows_and_inner f_rows_and_inner fd_rows_and_inner ["rows"]) {f_inner_parts : Addr} {fd_inner_parts : FuncData} (C_inner_parts : Ce K mg "inner_parts" s_inner_parts f_inner_parts fd_inner_parts ["row"]) (G_inner_parts : FnD Pg w K mg base 1 f_inner_parts fd_inner_parts ["row"] FF_inner_parts) : ∀ n, FnD Pg w K mg base (n + 1) f_rows_and_inner fd_rows_and_inner ["rows"] (FF_rows_and_inner n) := by
  intro n
  induction n with
  | zero => exact fn_none
  | succ n G_rows_and_inner =>
  rw [show n + 1 + 1 = n + 1 + 1 by omega]
  have z := fun hb => fn_data (Pg := Pg) (w := w) (mg := mg) (base := base) (k := n + 1) (m := m_rows_and_inner (FF_rows_and_inner n)) C_rows_and_inner.fn sc_rows_and_inner hb
  refine z (fun cdv A outer s H E hr => ?_)
  have hu := hr.units
  have hr_rows_and_inner : Room (n + 1) _ := hr
  have hr_inner_parts : Room 1 _ := hr.mono (by omega)
  unfold m_rows_and_inner
  refine ds_cons ?_ ?_
  · refine @ds_set _ _ _ _ _ 1 _ _ sc_rows_and_inner.nd rfl (Or.inl rfl) ?_ inferInstance rfl (.inl rfl)
    exact de_lst da_nil
  refine ds_cons ?_ ?_
  · refine ds_for PassesOwn.never rfl ?_ ?_ ?_
    · exact di_seq (dv 0)
    · exact dg_name (i := 2) sc_rows_and_inner.nd
    · refine ds_cons ?_ ?_
      · refine ds_expr ?_
        refine de_lm PySem.F.slot_list_append PySem.F.type_list_append m_append (dv 1) ?_
        exact da_cons (dv 2) da_nil
      refine ds_one ?_
      refine ds_for PassesOwn.never rfl ?_ ?_ ?_
      · refine di_seq ?_
        refine de_call G_inner_parts hr_inner_parts C_inner_parts.mg C_inner_parts.fn.kp C_inner_parts.bd ?_
        exact da_cons (dv 2) da_nil
      · exact dg_name (i := 3) sc_rows_and_inner.nd
      · refine ds_one ?_
        refine ds_expr ?_
        refine de_lm PySem.F.slot_list_extend PySem.F.type_list_extend m_extend (dv 1) ?_
        refine da_cons ?_ da_nil
        refine de_call G_rows_and_inner hr_rows_and_inner C_rows_and_inner.mg C_rows_and_inner.fn.kp C_rows_and_inner.bd ?_
        exact da_cons (dv 3) da_nil
  refine ds_one ?_
  exact ds_ret (dv 1)
abbrev s_rows_of : Stmt := top 10
theorem sc_rows_of : FnScope ["deed"] ["deed"] (defScope s_rows_of) := ⟨rfl, rfl, rfl, by decide +kernel, rfl, by decide +kernel, by decide +kernel⟩
noncomputable def m_rows_of : FS := sRet 1 (fFn 1 (FF_rows_and_inner 6) (fCons (f2 gIx (fVar 0) (fC (.int 2))) (fNil)))
noncomputable def FF_rows_of : FF := runBody 1 m_rows_of
instance : KpF FF_rows_of := inferInstanceAs (KpF (runBody _ _))
set_option maxHeartbeats 2000000 in
theorem ok_rows_of (T : Txt K mg) {f_rows_of : Addr} {fd_rows_of : FuncData} (C_rows_of : Ce K mg "rows_of" s_rows_of f_rows_of fd_rows_of ["deed"]) {f_rows_and_inner : Addr} {fd_rows_and_inner : FuncData} (C_rows_and_inner : Ce K mg "rows_and_inner" s_rows_and_inner f_rows_and_inner fd_rows_and_inner ["rows"]) (G_rows_and_inner : FnD Pg w K mg base 7 f_rows_and_inner fd_rows_and_inner ["rows"] (FF_rows_and_inner 6)) : FnD Pg w K mg base 8 f_rows_of fd_rows_of ["deed"] FF_rows_of := by
  have z := fun hb => fn_data (Pg := Pg) (w := w) (mg := mg) (base := base) (k := 7) (m := m_rows_of) C_rows_of.fn sc_rows_of hb
  refine z (fun cdv A outer s H E hr => ?_)
  have hu := hr.units
  have hr_rows_and_inner : Room 7 _ := hr.mono (by omega)
  unfold m_rows_of
  refine ds_one ?_
  refine ds_ret ?_
  refine de_call G_rows_and_inner hr_rows_and_inner C_rows_and_inner.mg C_rows_and_inner.fn.kp C_rows_and_inner.bd ?_
  refine da_cons ?_ da_nil
  exact de_ix o_ix (dv 0) de_int
abbrev s_call_rows : Stmt := top 13
theorem sc_call_rows : FnScope ["deed"] ["deed"] (defScope s_call_rows) := ⟨rfl, rfl, rfl, by decide +kernel, rfl, by decide +kernel, by decide +kernel⟩
theorem nc_call_rows_0 : ((["deed"] : List Str) ++ (["row"] : List Str)).Nodup := by decide +kernel
noncomputable def m_call_rows : FS := sRet 1 (fComp (fiSeq (fFn 1 FF_rows_of (fCons (fVar 0) (fNil)))) (fT (f2 gEq (f2 gIx (fVar 1) (fC (.int 0))) (fC (.str "call")))) (fVar 1))
noncomputable def FF_call_rows : FF := runBody 1 m_call_rows
instance : KpF FF_call_rows := inferInstanceAs (KpF (runBody _ _))
set_option maxHeartbeats 2000000 in
theorem ok_call_rows (T : Txt K mg) {f_call_rows : Addr} {fd_call_rows : FuncData} (C_call_rows : Ce K mg "call_rows" s_call_rows f_call_rows fd_call_rows ["deed"]) {f_rows_of : Addr} {fd_rows_of : FuncData} (C_rows_of : Ce K mg "rows_of" s_rows_of f_rows_of fd_rows_of ["deed"]) (G_rows_of : FnD Pg w K mg base 8 f_rows_of fd_rows_of ["deed"] FF_rows_of) : FnD Pg w K mg base 9 f_call_rows fd_call_rows ["deed"] FF_call_rows := by
  have z := fun hb => fn_data (Pg := Pg) (w := w) (mg := mg) (base := base) (k := 8) (m := m_call_rows) C_call_rows.fn sc_call_rows hb
  refine z (fun cdv A outer s H E hr => ?_)
  have hu := hr.units
  have hr_rows_of : Room 8 _ := hr.mono (by omega)
  unfold m_call_rows
  refine ds_one ?_
  refine ds_ret ?_
  refine de_comp (fun _ _ h => h) rfl (blk_of (M := ["deed"]) rfl) nc_call_rows_0 ?_ (fun cl C s0 H0 fp => ?_) (fun cl C s0 H0 fp => ?_)
  · refine di_seq ?_
    refine de_call G_rows_of hr_rows_of C_rows_of.mg C_rows_of.fn.kp C_rows_of.bd ?_
    exact da_cons (dv 0) da_nil
  · refine df_one ?_
    refine dt_cmp (o_eq hu) gEqN_bl ?_ de_str
    exact de_ix o_ix (dv 1) de_int
  · exact dv 1
abbrev s_refuse_wrong_call : Stmt := top 9
theorem sc_refuse_wrong_call : FnScope ["call", "param_counts", "marks_ahead", "called", "mark"] ["call", "param_counts", "marks_ahead"] (defScope s_refuse_wrong_call) := ⟨rfl, rfl, rfl, by decide +kernel, rfl, by decide +kernel, by decide +kernel⟩
noncomputable def m_refuse_wrong_call : FS := sSeq (sSet 3 3 (f2 gIx (fVar 0) (fC (.int 2)))) (sSeq (sSet 3 4 (f2 gIx (fVar 0) (fC (.int 4)))) (sSeq (sIf (fT (f2 (gInK true) (fVar 3) (fVar 1))) ((fun _ => none)) (sNext)) (sSeq (sIf (fT (f2 gNe (fCall gLen (fCons (f2 gIx (fVar 0) (fC (.int 3))) (fNil))) (fDIx (fVar 1) (fVar 3)))) ((fun _ => none)) (sNext)) (sIf (fT (f2 (gInK false) (fVar 4) (fVar 2))) ((fun _ => none)) (sNext)))))
noncomputable def FF_refuse_wrong_call : FF := runBody 5 m_refuse_wrong_call
instance : KpF FF_refuse_wrong_call := inferInstanceAs (KpF (runBody _ _))
set_option maxHeartbeats 2000000 in
theorem ok_refuse_wrong_call (T : Txt K mg) {f_refuse_wrong_call : Addr} {fd_refuse_wrong_call : FuncData} (C_refuse_wrong_call : Ce K mg "refuse_wrong_call" s_refuse_wrong_call f_refuse_wrong_call fd_refuse_wrong_call ["call", "param_counts", "marks_ahead"])  : FnD Pg w K mg base 1 f_refuse_wrong_call fd_refuse_wrong_call ["call", "param_counts", "marks_ahead"] FF_refuse_wrong_call := by
  have z := fun hb => fn_data (Pg := Pg) (w := w) (mg := mg) (base := base) (k := 0) (m := m_refuse_wrong_call) C_refuse_wrong_call.fn sc_refuse_wrong_call hb
  refine z (fun cdv A outer s H E hr => ?_)
  have hu := hr.units
  unfold m_refuse_wrong_call
  refine ds_cons ?_ ?_
  · refine @ds_set _ _ _ _ _ 3 _ _ sc_refuse_wrong_call.nd rfl (Or.inl rfl) ?_ inferInstance rfl (.inl rfl)
    exact de_ix o_ix (dv 0) de_int
  refine ds_cons ?_ ?_
  · refine @ds_set _ _ _ _ _ 4 _ _ sc_refuse_wrong_call.nd rfl (Or.inl rfl) ?_ inferInstance rfl (.inl rfl)
    exact de_ix o_ix (dv 0) de_int
  refine ds_cons ?_ ?_
  · refine ds_if ?_ ?_ ds_nil
    · exact dt_cmp (o_notinK hu) gInK_bl (dv 3) (dv 1)
    · refine ds_one ?_
      exact ds_never
  refine ds_cons ?_ ?_
  · refine ds_if ?_ ?_ ds_nil
    · refine dt_cmp (o_ne hu) gEqN_bl ?_ ?_
      · refine de_callB c_len rfl T.b_len bt_len ?_
        refine da_cons ?_ da_nil
        exact de_ix o_ix (dv 0) de_int
      · exact de_dix hu (dv 1) (dv 3)
    · refine ds_one ?_
      exact ds_never
  refine ds_one ?_
  refine ds_if ?_ ?_ ds_nil
  · exact dt_cmp (o_inK hu) gInK_bl (dv 4) (dv 2)
  · refine ds_one ?_
    exact ds_never
abbrev s_refuse_wrong_calls : Stmt := top 8
theorem sc_refuse_wrong_calls : FnScope ["book", "param_counts", "deed", "marks_ahead", "call"] ["book"] (defScope s_refuse_wrong_calls) := ⟨rfl, rfl, rfl, by decide +kernel, rfl, by decide +kernel, by decide +kernel⟩
noncomputable def m_refuse_wrong_calls : FS := sSeq (sSet 1 1 (fDict0)) (sSeq (sFor 1 (fiSeq (fVar 0)) (gName' 1 2) (sPutK (fVar 1) (f2 gIx (fVar 2) (fC (.int 0))) (fCall gLen (fCons (f2 gIx (fVar 2) (fC (.int 1))) (fNil))))) (sSeq (sSet 1 3 (fDict0)) (sFor 1 (fiSeq (fVar 0)) (gName' 1 2) (sFor 1 (fiSeq (fFn 1 FF_call_rows (fCons (fVar 2) (fNil)))) (gName' 1 4) (sSeq (sExpr (fFn 3 FF_refuse_wrong_call (fCons (fVar 4) (fCons (fVar 1) (fCons (fVar 3) (fNil)))))) (sPutK (fVar 3) (f2 gIx (fVar 4) (fC (.int 4))) (fC (.bl true))))))))
noncomputable def FF_refuse_wrong_calls : FF := runBody 5 m_refuse_wrong_calls
instance : KpF FF_refuse_wrong_calls := inferInstanceAs (KpF (runBody _ _))
set_option maxHeartbeats 2000000 in
theorem ok_refuse_wrong_calls (T : Txt K mg) {f_refuse_wrong_calls : Addr} {fd_refuse_wrong_calls : FuncData} (C_refuse_wrong_calls : Ce K mg "refuse_wrong_calls" s_refuse_wrong_calls f_refuse_wrong_calls fd_refuse_wrong_calls ["book"]) {f_call_rows : Addr} {fd_call_rows : FuncData} (C_call_rows : Ce K mg "call_rows" s_call_rows f_call_rows fd_call_rows ["deed"]) (G_call_rows : FnD Pg w K mg base 9 f_call_rows fd_call_rows ["deed"] FF_call_rows) {f_refuse_wrong_call : Addr} {fd_refuse_wrong_call : FuncData} (C_refuse_wrong_call : Ce K mg "refuse_wrong_call" s_refuse_wrong_call f_refuse_wrong_call fd_refuse_wrong_call ["call", "param_counts", "marks_ahead"]) (G_refuse_wrong_call : FnD Pg w K mg base 1 f_refuse_wrong_call fd_refuse_wrong_call ["call", "param_counts", "marks_ahead"] FF_refuse_wrong_call) : FnD Pg w K mg base 10 f_refuse_wrong_calls fd_refuse_wrong_calls ["book"] FF_refuse_wrong_calls := by
  have z := fun hb => fn_data (Pg := Pg) (w := w) (mg := mg) (base := base) (k := 9) (m := m_refuse_wrong_calls) C_refuse_wrong_calls.fn sc_refuse_wrong_calls hb
  refine z (fun cdv A outer s H E hr => ?_)
  have hu := hr.units
  have hr_call_rows : Room 9 _ := hr.mono (by omega)
  have hr_refuse_wrong_call : Room 1 _ := hr.mono (by omega)
  unfold m_refuse_wrong_calls
  refine ds_cons ?_ ?_
  · refine @ds_set _ _ _ _ _ 1 _ _ sc_refuse_wrong_calls.nd rfl (Or.inl rfl) ?_ inferInstance rfl (.inl rfl)
    exact de_dict0
  refine ds_cons ?_ ?_
  · refine ds_for PassesOwn.never rfl ?_ ?_ ?_
    · exact di_seq (dv 0)
    · exact dg_name (i := 2) sc_refuse_wrong_calls.nd
    · refine ds_one ?_
      refine ds_putK hu (dv 1) ?_ ?_
      · exact de_ix o_ix (dv 2) de_int
      · refine de_callB c_len rfl T.b_len bt_len ?_
        refine da_cons ?_ da_nil
        exact de_ix o_ix (dv 2) de_int
  refine ds_cons ?_ ?_
  · refine @ds_set _ _ _ _ _ 3 _ _ sc_refuse_wrong_calls.nd rfl (Or.inl rfl) ?_ inferInstance rfl (.inl rfl)
    exact de_dict0
  refine ds_one ?_
  refine ds_for PassesOwn.never rfl ?_ ?_ ?_
  · exact di_seq (dv 0)
  · exact dg_name (i := 2) sc_refuse_wrong_calls.nd
  · refine ds_one ?_
    refine ds_for PassesOwn.never rfl ?_ ?_ ?_
    · refine di_seq ?_
      refine de_call G_call_rows hr_call_rows C_call_rows.mg C_call_rows.fn.kp C_call_rows.bd ?_
      exact da_cons (dv 2) da_nil
    · exact dg_name (i := 4) sc_refuse_wrong_calls.nd
    · refine ds_cons ?_ ?_
      · refine ds_expr ?_
        refine de_call G_refuse_wrong_call hr_refuse_wrong_call C_refuse_wrong_call.mg C_refuse_wrong_call.fn.kp C_refuse_wrong_call.bd ?_
        refine da_cons (dv 4) ?_
        refine da_cons (dv 1) ?_
        exact da_cons (dv 3) da_nil
      refine ds_one ?_
      refine ds_putK hu (dv 3) ?_ de_bl
      exact de_ix o_ix (dv 4) de_int
abbrev s_made_book : Stmt := top 6
theorem sc_made_book : FnScope ["deeds", "book"] ["deeds"] (defScope s_made_book) := ⟨rfl, rfl, rfl, by decide +kernel, rfl, by decide +kernel, by decide +kernel⟩
noncomputable def m_made_book : FS := sSeq (sSet 1 1 (fCall gTupOf (fCons (fVar 0) (fNil)))) (sSeq (sExpr (fFn 1 FF_refuse_like_names (fCons (fVar 1) (fNil)))) (sSeq (sExpr (fFn 1 FF_refuse_wrong_calls (fCons (fVar 1) (fNil)))) (sRet 1 (fVar 1))))
noncomputable def FF_made_book : FF := runBody 2 m_made_book
instance : KpF FF_made_book := inferInstanceAs (KpF (runBody _ _))
set_option maxHeartbeats 2000000 in
theorem ok_made_book (T : Txt K mg) {f_made_book : Addr} {fd_made_book : FuncData} (C_made_book : Ce K mg "made_book" s_made_book f_made_book fd_made_book ["deeds"]) {f_refuse_like_names : Addr} {fd_refuse_like_names : FuncData} (C_refuse_like_names : Ce K mg "refuse_like_names" s_refuse_like_names f_refuse_like_names fd_refuse_like_names ["book"]) (G_refuse_like_names : FnD Pg w K mg base 1 f_refuse_like_names fd_refuse_like_names ["book"] FF_refuse_like_names) {f_refuse_wrong_calls : Addr} {fd_refuse_wrong_calls : FuncData} (C_refuse_wrong_calls : Ce K mg "refuse_wrong_calls" s_refuse_wrong_calls f_refuse_wrong_calls fd_refuse_wrong_calls ["book"]) (G_refuse_wrong_calls : FnD Pg w K mg base 10 f_refuse_wrong_calls fd_refuse_wrong_calls ["book"] FF_refuse_wrong_calls) : FnD Pg w K mg base 11 f_made_book fd_made_book ["deeds"] FF_made_book := by
  have z := fun hb => fn_data (Pg := Pg) (w := w) (mg := mg) (base := base) (k := 10) (m := m_made_book) C_made_book.fn sc_made_book hb
  refine z (fun cdv A outer s H E hr => ?_)
  have hu := hr.units
  have hr_refuse_like_names : Room 1 _ := hr.mono (by omega)
  have hr_refuse_wrong_calls : Room 10 _ := hr.mono (by omega)
  unfold m_made_book
  refine ds_cons ?_ ?_
  · refine @ds_set _ _ _ _ _ 1 _ _ sc_made_book.nd rfl (Or.inl rfl) ?_ inferInstance rfl (.inl rfl)
    refine de_callTy c_tuple rfl T.b_tuple bt_tuple ?_
    exact da_cons (dv 0) da_nil
  refine ds_cons ?_ ?_
  · refine ds_expr ?_
    refine de_call G_refuse_like_names hr_refuse_like_names C_refuse_like_names.mg C_refuse_like_names.fn.kp C_refuse_like_names.bd ?_
    exact da_cons (dv 1) da_nil
  refine ds_cons ?_ ?_
  · refine ds_expr ?_
    refine de_call G_refuse_wrong_calls hr_refuse_wrong_calls C_refuse_wrong_calls.mg C_refuse_wrong_calls.fn.kp C_refuse_wrong_calls.bd ?_
    exact da_cons (dv 1) da_nil
  refine ds_one ?_
  exact ds_ret (dv 1)
abbrev s_calls_of : Stmt := top 14
theorem sc_calls_of : FnScope ["deed"] ["deed"] (defScope s_calls_of) := ⟨rfl, rfl, rfl, by decide +kernel, rfl, by decide +kernel, by decide +kernel⟩
theorem nc_calls_of_0 : ((["deed"] : List Str) ++ (["call"] : List Str)).Nodup := by decide +kernel
noncomputable def m_calls_of : FS := sRet 1 (fComp (fiSeq (fFn 1 FF_call_rows (fCons (fVar 0) (fNil)))) (fYes) (fTupF 1 (fCons (f2 gIx (fVar 1) (fC (.int 4))) (fCons (f2 gIx (fVar 1) (fC (.int 2))) (fNil)))))
noncomputable def FF_calls_of : FF := runBody 1 m_calls_of
instance : KpF FF_calls_of := inferInstanceAs (KpF (runBody _ _))
set_option maxHeartbeats 2000000 in
theorem ok_calls_of (T : Txt K mg) {f_calls_of : Addr} {fd_calls_of : FuncData} (C_calls_of : Ce K mg "calls_of" s_calls_of f_calls_of fd_calls_of ["deed"]) {f_call_rows : Addr} {fd_call_rows : FuncData} (C_call_rows : Ce K mg "call_rows" s_call_rows f_call_rows fd_call_rows ["deed"]) (G_call_rows : FnD Pg w K mg base 9 f_call_rows fd_call_rows ["deed"] FF_call_rows) : FnD Pg w K mg base 10 f_calls_of fd_calls_of ["deed"] FF_calls_of := by
  have z := fun hb => fn_data (Pg := Pg) (w := w) (mg := mg) (base := base) (k := 9) (m := m_calls_of) C_calls_of.fn sc_calls_of hb
  refine z (fun cdv A outer s H E hr => ?_)
  have hu := hr.units
  have hr_call_rows : Room 9 _ := hr.mono (by omega)
  unfold m_calls_of
  refine ds_one ?_
  refine ds_ret ?_
  refine de_comp (fun _ _ h => h) rfl (blk_of (M := ["deed"]) rfl) nc_calls_of_0 ?_ (fun cl C s0 H0 fp => ?_) (fun cl C s0 H0 fp => ?_)
  · refine di_seq ?_
    refine de_call G_call_rows hr_call_rows C_call_rows.mg C_call_rows.fn.kp C_call_rows.bd ?_
    exact da_cons (dv 0) da_nil
  · exact df_nil
  · refine de_tupF ?_
    refine da_cons ?_ ?_
    · exact de_ix o_ix (dv 1) de_int
    · refine da_cons ?_ da_nil
      exact de_ix o_ix (dv 1) de_int
abbrev s_Lpot : Stmt := top 16
theorem sc_Lpot : FnScope ["cell", "k", "mark", "found", "turn"] ["cell", "k"] (defScope s_Lpot) := ⟨rfl, rfl, rfl, by decide +kernel, rfl, by decide +kernel, by decide +kernel⟩
noncomputable def m_Lpot : FS := sSeq (sSet 2 2 (f2 gMod (f2 gAdd (fVar 0) (f2 gMulS (fC (.int 7919)) (f2 gAdd (fVar 1) (fC (.int 1))))) (fC (.int 2147483647)))) (sSeq (sSet 2 3 (fLst (fCons (fC (.int 0)) (fNil)))) (sSeq (sFor 2 (fiRange1 (fCons (fC (.int 24)) (fNil))) (gName' 2 4) (sSeq (sSet 2 2 (f2 gMod (f2 gAdd (f2 gAdd (f2 gAdd (f2 gMulS (fVar 2) (fVar 2)) (f2 gMulS (fC (.int 48271)) (fVar 2))) (f2 gMulS (fC (.int 3)) (fVar 4))) (fVar 1)) (fC (.int 2147483629)))) (sSetL (f2 gAdd (f2 gMulS (f2 gIx (fVar 3) (fC (.int 0))) (fC (.int 2147483629))) (fVar 2)) (fVar 3) (fC (.int 0))))) (sSeq (sIf (fT (f2 gGe (fVar 0) (f2 gPow (fC (.int 10)) (fC (.int 18))))) (sExpr (fLm gAppend (fVar 3) (fCons (fVar 0) (fNil)))) (sNext)) (sRet 2 (fVar 3)))))
noncomputable def FF_Lpot : FF := runBody 5 m_Lpot
instance : KpF FF_Lpot := inferInstanceAs (KpF (runBody _ _))
set_option maxHeartbeats 2000000 in
theorem ok_Lpot (T : Txt K mg) {f_Lpot : Addr} {fd_Lpot : FuncData} (C_Lpot : Ce K mg "_law_pot" s_Lpot f_Lpot fd_Lpot ["cell", "k"])  : FnD Pg w K mg base 1 f_Lpot fd_Lpot ["cell", "k"] FF_Lpot := by
  have z := fun hb => fn_data (Pg := Pg) (w := w) (mg := mg) (base := base) (k := 0) (m := m_Lpot) C_Lpot.fn sc_Lpot hb
  refine z (fun cdv A outer s H E hr => ?_)
  have hu := hr.units
  unfold m_Lpot
  refine ds_cons ?_ ?_
  · refine @ds_set _ _ _ _ _ 2 _ _ sc_Lpot.nd rfl (Or.inl rfl) ?_ inferInstance rfl (.inl rfl)
    refine de_op o_mod ?_ de_int
    refine de_op o_add (dv 0) ?_
    refine de_op o_mulS de_int ?_
    exact de_op o_add (dv 1) de_int
  refine ds_cons ?_ ?_
  · refine @ds_set _ _ _ _ _ 3 _ _ sc_Lpot.nd rfl (Or.inl rfl) ?_ inferInstance rfl (.inl rfl)
    refine de_lst ?_
    exact da_cons de_int da_nil
  refine ds_cons ?_ ?_
  · refine ds_for PassesOwn.never rfl ?_ ?_ ?_
    · refine di_range1 rfl T.b_range ?_
      exact da_cons de_int da_nil
    · exact dg_name (i := 4) sc_Lpot.nd
    · refine ds_cons ?_ ?_
      · refine @ds_set _ _ _ _ _ 2 _ _ sc_Lpot.nd rfl (Or.inl rfl) ?_ inferInstance rfl (.inl rfl)
        refine de_op o_mod ?_ de_int
        refine de_op o_add ?_ (dv 1)
        refine de_op o_add ?_ ?_
        · refine de_op o_add ?_ ?_
          · exact de_op o_mulS (dv 2) (dv 2)
          · exact de_op o_mulS de_int (dv 2)
        · exact de_op o_mulS de_int (dv 4)
      refine ds_one ?_
      refine ds_setL ?_ (dv 3) de_int
      refine de_op o_add ?_ (dv 2)
      refine de_op o_mulS ?_ de_int
      exact de_ix o_ix (dv 3) de_int
  refine ds_cons ?_ ?_
  · refine ds_if ?_ ?_ ds_nil
    · refine dt_cmp o_ge gI_bl (dv 0) ?_
      exact de_op o_pow de_int de_int
    · refine ds_one ?_
      refine ds_expr ?_
      refine de_lm PySem.F.slot_list_append PySem.F.type_list_append m_append (dv 3) ?_
      exact da_cons (dv 0) da_nil
  refine ds_one ?_
  exact ds_ret (dv 3)
abbrev s_Ltake : Stmt := top 17
theorem sc_Ltake : FnScope ["pot", "many", "found"] ["pot", "many"] (defScope s_Ltake) := ⟨rfl, rfl, rfl, by decide +kernel, rfl, by decide +kernel, by decide +kernel⟩
noncomputable def m_Ltake : FS := sSeq (sSet 2 2 (f2 gMod (f2 gIx (fVar 0) (f1 gNeg (fC (.int 1)))) (fVar 1))) (sSeq (sSetL (f2 gFdiv (f2 gIx (fVar 0) (f1 gNeg (fC (.int 1)))) (fVar 1)) (fVar 0) (f1 gNeg (fC (.int 1)))) (sSeq (sIf (fAnd (fT (f2 gEq (f2 gIx (fVar 0) (f1 gNeg (fC (.int 1)))) (fC (.int 0)))) (fT (f2 gGt (fCall gLen (fCons (fVar 0) (fNil))) (fC (.int 1))))) (sExpr (fLm gPop (fVar 0) fNil)) (sNext)) (sRet 2 (fVar 2))))
noncomputable def FF_Ltake : FF := runBody 3 m_Ltake
instance : KpF FF_Ltake := inferInstanceAs (KpF (runBody _ _))
set_option maxHeartbeats 2000000 in
theorem ok_Ltake (T : Txt K mg) {f_Ltake : Addr} {fd_Ltake : FuncData} (C_Ltake : Ce K mg "_law_take" s_Ltake f_Ltake fd_Ltake ["pot", "many"])  : FnD Pg w K mg base 1 f_Ltake fd_Ltake ["pot", "many"] FF_Ltake := by
  have z := fun hb => fn_data (Pg := Pg) (w := w) (mg := mg) (base := base) (k := 0) (m := m_Ltake) C_Ltake.fn sc_Ltake hb
  refine z (fun cdv A outer s H E hr => ?_)
  have hu := hr.units
  unfold m_Ltake
  refine ds_cons ?_ ?_
  · refine @ds_set _ _ _ _ _ 2 _ _ sc_Ltake.nd rfl (Or.inl rfl) ?_ inferInstance rfl (.inl rfl)
    refine de_op o_mod ?_ (dv 1)
    refine de_ix o_ix (dv 0) ?_
    exact de_neg de_int
  refine ds_cons ?_ ?_
  · refine ds_setL ?_ (dv 0) ?_
    · refine de_op o_fdiv ?_ (dv 1)
      refine de_ix o_ix (dv 0) ?_
      exact de_neg de_int
    · exact de_neg de_int
  refine ds_cons ?_ ?_
  · refine ds_if ?_ ?_ ds_nil
    · refine DW.dt ?_
      refine dw_and ?_ ?_
      · refine dt_cmp (o_eq hu) gEqN_bl ?_ de_int
        refine de_ix o_ix (dv 0) ?_
        exact de_neg de_int
      · refine dw_and1 ?_
        refine dt_cmp o_gt gI_bl ?_ de_int
        refine de_callB c_len rfl T.b_len bt_len ?_
        exact da_cons (dv 0) da_nil
    · refine ds_one ?_
      refine ds_expr ?_
      exact de_lm0 PySem.F.slot_list_pop PySem.F.type_list_pop m_pop (dv 0)
  refine ds_one ?_
  exact ds_ret (dv 2)
abbrev s_Lfolded : Stmt := top 18
theorem sc_Lfolded : FnScope ["script", "many", "found", "k", "cell"] ["script", "many"] (defScope s_Lfolded) := ⟨rfl, rfl, rfl, by decide +kernel, rfl, by decide +kernel, by decide +kernel⟩
noncomputable def m_Lfolded : FS := sSeq (sSet 2 2 (f2 gMulL (fLst (fCons (fC (.int 0)) (fNil))) (fVar 1))) (sSeq (sFor 2 (fiEnum (fCons (fSl (fVar 0) foN (foS (fC (.int 63)))) (fNil))) (gPair (gName' 2 3) (gName' 2 4)) (sSetL (f2 gAdd (f2 gMulS (f2 gIx (fVar 2) (f2 gMod (fVar 3) (fVar 1))) (fC (.int 31))) (fVar 4)) (fVar 2) (f2 gMod (fVar 3) (fVar 1)))) (sRet 2 (fVar 2)))
noncomputable def FF_Lfolded : FF := runBody 5 m_Lfolded
instance : KpF FF_Lfolded := inferInstanceAs (KpF (runBody _ _))
set_option maxHeartbeats 2000000 in
theorem ok_Lfolded (T : Txt K mg) {f_Lfolded : Addr} {fd_Lfolded : FuncData} (C_Lfolded : Ce K mg "_law_folded" s_Lfolded f_Lfolded fd_Lfolded ["script", "many"])  : FnD Pg w K mg base 1 f_Lfolded fd_Lfolded ["script", "many"] FF_Lfolded := by
  have z := fun hb => fn_data (Pg := Pg) (w := w) (mg := mg) (base := base) (k := 0) (m := m_Lfolded) C_Lfolded.fn sc_Lfolded hb
  refine z (fun cdv A outer s H E hr => ?_)
  have hu := hr.units
  unfold m_Lfolded
  refine ds_cons ?_ ?_
  · refine @ds_set _ _ _ _ _ 2 _ _ sc_Lfolded.nd rfl (Or.inl rfl) ?_ inferInstance rfl (.inl rfl)
    refine de_op o_mulL ?_ (dv 1)
    refine de_lst ?_
    exact da_cons de_int da_nil
  refine ds_cons ?_ ?_
  · refine ds_for PassesOwn.never rfl ?_ ?_ ?_
    · refine di_enum rfl T.b_enumerate ?_
      refine da_cons ?_ da_nil
      refine de_slice (dv 0) do_none ?_
      exact do_some de_int
    · refine dg_pair rfl ?_ ?_
      · exact dg_name (i := 3) sc_Lfolded.nd
      · exact dg_name (i := 4) sc_Lfolded.nd
    · refine ds_one ?_
      refine ds_setL ?_ (dv 2) ?_
      · refine de_op o_add ?_ (dv 4)
        refine de_op o_mulS ?_ de_int
        refine de_ix o_ix (dv 2) ?_
        exact de_op o_mod (dv 3) (dv 1)
      · exact de_op o_mod (dv 3) (dv 1)
  refine ds_one ?_
  exact ds_ret (dv 2)
abbrev s_Lvalue : Stmt := top 19
theorem sc_Lvalue : FnScope ["pot"] ["pot"] (defScope s_Lvalue) := ⟨rfl, rfl, rfl, by decide +kernel, rfl, by decide +kernel, by decide +kernel⟩
noncomputable def m_Lvalue : FS := sSeq (sIf (fT (f2 gEq (fFn 2 FF_Ltake (fCons (fVar 0) (fCons (fC (.int 2)) (fNil)))) (fC (.int 0)))) (sRet 1 (fFn 2 FF_Ltake (fCons (fVar 0) (fCons (fC (.int 5)) (fNil))))) (sNext)) (sRet 1 (fFn 2 FF_Ltake (fCons (fVar 0) (fCons (f2 gPow (fC (.int 10)) (fC (.int 6))) (fNil)))))
noncomputable def FF_Lvalue : FF := runBody 1 m_Lvalue
instance : KpF FF_Lvalue := inferInstanceAs (KpF (runBody _ _))
set_option maxHeartbeats 2000000 in
theorem ok_Lvalue (T : Txt K mg) {f_Lvalue : Addr} {fd_Lvalue : FuncData} (C_Lvalue : Ce K mg "_law_value" s_Lvalue f_Lvalue fd_Lvalue ["pot"]) {f_Ltake : Addr} {fd_Ltake : FuncData} (C_Ltake : Ce K mg "_law_take" s_Ltake f_Ltake fd_Ltake ["pot", "many"]) (G_Ltake : FnD Pg w K mg base 1 f_Ltake fd_Ltake ["pot", "many"] FF_Ltake) : FnD Pg w K mg base 2 f_Lvalue fd_Lvalue ["pot"] FF_Lvalue := by
  have z := fun hb => fn_data (Pg := Pg) (w := w) (mg := mg) (base := base) (k := 1) (m := m_Lvalue) C_Lvalue.fn sc_Lvalue hb
  refine z (fun cdv A outer s H E hr => ?_)
  have hu := hr.units
  have hr_Ltake : Room 1 _ := hr.mono (by omega)
  unfold m_Lvalue
  refine ds_cons ?_ ?_
  · refine ds_if ?_ ?_ ds_nil
    · refine dt_cmp (o_eq hu) gEqN_bl ?_ de_int
      refine de_call G_Ltake hr_Ltake C_Ltake.mg C_Ltake.fn.kp C_Ltake.bd ?_
      refine da_cons (dv 0) ?_
      exact da_cons de_int da_nil
    · refine ds_one ?_
      refine ds_ret ?_
      refine de_call G_Ltake hr_Ltake C_Ltake.mg C_Ltake.fn.kp C_Ltake.bd ?_
      refine da_cons (dv 0) ?_
      exact da_cons de_int da_nil
  refine ds_one ?_
  refine ds_ret ?_
  refine de_call G_Ltake hr_Ltake C_Ltake.mg C_Ltake.fn.kp C_Ltake.bd ?_
  refine da_cons (dv 0) ?_
  refine da_cons ?_ da_nil
  exact de_op o_pow de_int de_int
abbrev s_Ldrawn : Stmt := top 20
theorem sc_Ldrawn : FnScope ["pot", "names", "deep", "way", "word"] ["pot", "names", "deep"] (defScope s_Ldrawn) := ⟨rfl, rfl, rfl, by decide +kernel, rfl, by decide +kernel, by decide +kernel⟩
noncomputable def m_Ldrawn (FF_Ldrawn : FF) : FS := sSeq (sSet 3 3 (fFn 2 FF_Ltake (fCons (fVar 0) (fCons (fC (.int 12)) (fNil))))) (sSeq (sIf (fOr (fT (f2 gEq (fVar 2) (fC (.int 1)))) (fT (f2 gLt (fVar 3) (fC (.int 4))))) (sSeq (sIf (fAnd (fT (f2 gEq (f2 gMod (fVar 3) (fC (.int 2))) (fC (.int 0)))) (fT (f2 gNe (fVar 1) (fLst (fNil))))) (sRet 3 (fTupF 3 (fCons (fC (.str "name")) (fCons (f2 gIx (fVar 1) (fFn 2 FF_Ltake (fCons (fVar 0) (fCons (fCall gLen (fCons (fVar 1) (fNil))) (fNil))))) (fNil))))) (sNext)) (sRet 3 (fTupF 3 (fCons (fC (.str "number")) (fCons (fFn 1 FF_Lvalue (fCons (fVar 0) (fNil))) (fNil)))))) (sNext)) (sSeq (sSet 3 4 (f2 gIx (fLst (fCons (fC (.str "plus")) (fCons (fC (.str "less")) (fCons (fC (.str "times")) (fCons (fC (.str "over")) (fCons (fC (.str "rest")) (fCons (fC (.str "under")) (fCons (fC (.str "same")) (fNil))))))))) (fFn 2 FF_Ltake (fCons (fVar 0) (fCons (fC (.int 7)) (fNil)))))) (sRet 3 (fTupF 3 (fCons (fVar 4) (fCons (fFn 3 FF_Ldrawn (fCons (fVar 0) (fCons (fVar 1) (fCons (f2 gSub (fVar 2) (fC (.int 1))) (fNil))))) (fCons (fFn 3 FF_Ldrawn (fCons (fVar 0) (fCons (fVar 1) (fCons (f2 gSub (fVar 2) (fC (.int 1))) (fNil))))) (fNil))))))))
noncomputable def FF_Ldrawn : Nat → FF
  | 0 => fun _ => none
  | n + 1 => runBody 5 (m_Ldrawn (FF_Ldrawn n))
instance {n : Nat} : KpF (FF_Ldrawn n) := by cases n with | zero => exact ⟨fun _ _ _ h => by cases h⟩ | succ n => exact inferInstanceAs (KpF (runBody _ _))
set_option maxHeartbeats 2000000 in
theorem ok_Ldrawn (T : Txt K mg) {f_Ldrawn : Addr} {fd_Ldrawn : FuncData} (C_Ldrawn : Ce K mg "_law_drawn" s_Ldrawn f_Ldrawn fd_Ldrawn ["pot", "names", "deep"]) {f_Ltake : Addr} {fd_Ltake : FuncData} (C_Ltake : Ce K mg "_law_take" s_Ltake f_Ltake fd_Ltake ["pot", "many"]) (G_Ltake : FnD Pg w K mg base 1 f_Ltake fd_Ltake ["pot", "many"] FF_Ltake) {f_Lvalue : Addr} {fd_Lvalue : FuncData} (C_Lvalue : Ce K mg "_law_value" s_Lvalue f_Lvalue fd_Lvalue ["pot"]) (G_Lvalue : FnD Pg w K mg base 2 f_Lvalue fd_Lvalue ["pot"] FF_Lvalue) : ∀ n, FnD Pg w K mg base (n + 2) f_Ldrawn fd_Ldrawn ["pot", "names", "deep"] (FF_Ldrawn n) := by
  intro n
  induction n with
  | zero => exact fn_none
  | succ n G_Ldrawn =>
  rw [show n + 1 + 2 = n + 2 + 1 by omega]
  have z := fun hb => fn_data (Pg := Pg) (w := w) (mg := mg) (base := base) (k := n + 2) (m := m_Ldrawn (FF_Ldrawn n)) C_Ldrawn.fn sc_Ldrawn hb
  refine z (fun cdv A outer s H E hr => ?_)
  have hu := hr.units
  have hr_Ldrawn : Room (n + 2) _ := hr
  have hr_Ltake : Room 1 _ := hr.mono (by omega)
  have hr_Lvalue : Room 2 _ := hr.mono (by omega)
  unfold m_Ldrawn
  refine ds_cons ?_ ?_
  · refine @ds_set _ _ _ _ _ 3 _ _ sc_Ldrawn.nd rfl (Or.inl rfl) ?_ inferInstance rfl (.inl rfl)
    refine de_call G_Ltake hr_Ltake C_Ltake.mg C_Ltake.fn.kp C_Ltake.bd ?_
    refine da_cons (dv 0) ?_
    exact da_cons de_int da_nil
  refine ds_cons ?_ ?_
  · refine ds_if ?_ ?_ ds_nil
    · refine DW.dt ?_
      refine dw_or ?_ ?_
      · exact dt_cmp (o_eq hu) gEqN_bl (dv 2) de_int
      · refine dw_or1 ?_
        exact dt_cmp o_lt gI_bl (dv 3) de_int
    · refine ds_cons ?_ ?_
      · refine ds_if ?_ ?_ ds_nil
        · refine DW.dt ?_
          refine dw_and ?_ ?_
          · refine dt_cmp (o_eq hu) gEqN_bl ?_ de_int
            exact de_op o_mod (dv 3) de_int
          · refine dw_and1 ?_
            refine dt_cmp (o_ne hu) gEqN_bl (dv 1) ?_
            exact de_lst da_nil
        · refine ds_one ?_
          refine ds_ret ?_
          refine de_tupF ?_
          refine da_cons de_str ?_
          refine da_cons ?_ da_nil
          refine de_ix o_ix (dv 1) ?_
          refine de_call G_Ltake hr_Ltake C_Ltake.mg C_Ltake.fn.kp C_Ltake.bd ?_
          refine da_cons (dv 0) ?_
          refine da_cons ?_ da_nil
          refine de_callB c_len rfl T.b_len bt_len ?_
          exact da_cons (dv 1) da_nil
      refine ds_one ?_
      refine ds_ret ?_
      refine de_tupF ?_
      refine da_cons de_str ?_
      refine da_cons ?_ da_nil
      refine de_call G_Lvalue hr_Lvalue C_Lvalue.mg C_Lvalue.fn.kp C_Lvalue.bd ?_
      exact da_cons (dv 0) da_nil
  refine ds_cons ?_ ?_
  · refine @ds_set _ _ _ _ _ 4 _ _ sc_Ldrawn.nd rfl (Or.inl rfl) ?_ inferInstance rfl (.inl rfl)
    refine de_ix o_ix ?_ ?_
    · refine de_lst ?_
      refine da_cons de_str ?_
      refine da_cons de_str ?_
      refine da_cons de_str ?_
      refine da_cons de_str ?_
      refine da_cons de_str ?_
      refine da_cons de_str ?_
      exact da_cons de_str da_nil
    · refine de_call G_Ltake hr_Ltake C_Ltake.mg C_Ltake.fn.kp C_Ltake.bd ?_
      refine da_cons (dv 0) ?_
      exact da_cons de_int da_nil
  refine ds_one ?_
  refine ds_ret ?_
  refine de_tupF ?_
  refine da_cons (dv 4) ?_
  refine da_cons ?_ ?_
  · refine de_call G_Ldrawn hr_Ldrawn C_Ldrawn.mg C_Ldrawn.fn.kp C_Ldrawn.bd ?_
    refine da_cons (dv 0) ?_
    refine da_cons (dv 1) ?_
    refine da_cons ?_ da_nil
    exact de_op o_sub (dv 2) de_int
  · refine da_cons ?_ da_nil
    refine de_call G_Ldrawn hr_Ldrawn C_Ldrawn.mg C_Ldrawn.fn.kp C_Ldrawn.bd ?_
    refine da_cons (dv 0) ?_
    refine da_cons (dv 1) ?_
    refine da_cons ?_ da_nil
    exact de_op o_sub (dv 2) de_int
abbrev s_Lnames : Stmt := top 21
theorem sc_Lnames : FnScope ["pot", "many", "found", "k", "base", "name"] ["pot", "many"] (defScope s_Lnames) := ⟨rfl, rfl, rfl, by decide +kernel, rfl, by decide +kernel, by decide +kernel⟩
noncomputable def m_Lnames : FS := sSeq (sSet 2 2 (fLst (fNil))) (sSeq (sFor 2 (fiRange1 (fCons (fVar 1) (fNil))) (gName' 2 3) (sSeq (sSet 2 4 (f2 gIx (fC (.str "abcdefghijklmnopqrstuvwxyz")) (fFn 2 FF_Ltake (fCons (fVar 0) (fCons (fC (.int 26)) (fNil)))))) (sSeq (sSet 2 5 (fSl (f2 gAdd (f2 gMulS (fVar 4) (f2 gAdd (fC (.int 1)) (fFn 2 FF_Ltake (fCons (fVar 0) (fCons (fC (.int 3)) (fNil)))))) (f2 gIx (fLst (fCons (fC (.str "")) (fCons (fC (.str "a")) (fCons (fC (.str "z")) (fNil))))) (fFn 2 FF_Ltake (fCons (fVar 0) (fCons (fC (.int 3)) (fNil)))))) foN (foS (fC (.int 4))))) (sIf (fT (f2 (gInN true) (fVar 5) (fVar 2))) (sExpr (fLm gAppend (fVar 2) (fCons (fVar 5) (fNil)))) (sNext))))) (sRet 2 (fVar 2)))
noncomputable def FF_Lnames : FF := runBody 6 m_Lnames
instance : KpF FF_Lnames := inferInstanceAs (KpF (runBody _ _))
set_option maxHeartbeats 2000000 in
theorem ok_Lnames (T : Txt K mg) {f_Lnames : Addr} {fd_Lnames : FuncData} (C_Lnames : Ce K mg "_law_names" s_Lnames f_Lnames fd_Lnames ["pot", "many"]) {f_Ltake : Addr} {fd_Ltake : FuncData} (C_Ltake : Ce K mg "_law_take" s_Ltake f_Ltake fd_Ltake ["pot", "many"]) (G_Ltake : FnD Pg w K mg base 1 f_Ltake fd_Ltake ["pot", "many"] FF_Ltake) : FnD Pg w K mg base 2 f_Lnames fd_Lnames ["pot", "many"] FF_Lnames := by
  have z := fun hb => fn_data (Pg := Pg) (w := w) (mg := mg) (base := base) (k := 1) (m := m_Lnames) C_Lnames.fn sc_Lnames hb
  refine z (fun cdv A outer s H E hr => ?_)
  have hu := hr.units
  have hr_Ltake : Room 1 _ := hr.mono (by omega)
  unfold m_Lnames
  refine ds_cons ?_ ?_
  · refine @ds_set _ _ _ _ _ 2 _ _ sc_Lnames.nd rfl (Or.inl rfl) ?_ inferInstance rfl (.inl rfl)
    exact de_lst da_nil
  refine ds_cons ?_ ?_
  · refine ds_for PassesOwn.never rfl ?_ ?_ ?_
    · refine di_range1 rfl T.b_range ?_
      exact da_cons (dv 1) da_nil
    · exact dg_name (i := 3) sc_Lnames.nd
    · refine ds_cons ?_ ?_
      · refine @ds_set _ _ _ _ _ 4 _ _ sc_Lnames.nd rfl (Or.inl rfl) ?_ inferInstance rfl (.inl rfl)
        refine de_ix o_ix de_str ?_
        refine de_call G_Ltake hr_Ltake C_Ltake.mg C_Ltake.fn.kp C_Ltake.bd ?_
        refine da_cons (dv 0) ?_
        exact da_cons de_int da_nil
      refine ds_cons ?_ ?_
      · refine @ds_set _ _ _ _ _ 5 _ _ sc_Lnames.nd rfl (Or.inl rfl) ?_ inferInstance rfl (.inl rfl)
        refine de_slice ?_ do_none ?_
        · refine de_op o_add ?_ ?_
          · refine de_op o_mulS (dv 4) ?_
            refine de_op o_add de_int ?_
            refine de_call G_Ltake hr_Ltake C_Ltake.mg C_Ltake.fn.kp C_Ltake.bd ?_
            refine da_cons (dv 0) ?_
            exact da_cons de_int da_nil
          · refine de_ix o_ix ?_ ?_
            · refine de_lst ?_
              refine da_cons de_str ?_
              refine da_cons de_str ?_
              exact da_cons de_str da_nil
            · refine de_call G_Ltake hr_Ltake C_Ltake.mg C_Ltake.fn.kp C_Ltake.bd ?_
              refine da_cons (dv 0) ?_
              exact da_cons de_int da_nil
        · exact do_some de_int
      refine ds_one ?_
      refine ds_if ?_ ?_ ds_nil
      · exact dt_cmp (o_notin hu) gInN_bl (dv 5) (dv 2)
      · refine ds_one ?_
        refine ds_expr ?_
        refine de_lm PySem.F.slot_list_append PySem.F.type_list_append m_append (dv 2) ?_
        exact da_cons (dv 5) da_nil
  refine ds_one ?_
  exact ds_ret (dv 2)
abbrev s_Ldeed_words : Stmt := top 22
theorem sc_Ldeed_words : FnScope ["pot", "many", "first", "tail", "found"] ["pot", "many"] (defScope s_Ldeed_words) := ⟨rfl, rfl, rfl, by decide +kernel, rfl, by decide +kernel, by decide +kernel⟩
theorem nc_Ldeed_words_0 : ((["pot", "many", "first", "tail", "found"] : List Str) ++ (["k"] : List Str)).Nodup := by decide +kernel
theorem nc_Ldeed_words_1 : ((["pot", "many", "first", "tail", "found"] : List Str) ++ (["k"] : List Str)).Nodup := by decide +kernel
noncomputable def m_Ldeed_words : FS := sSeq (sSet 2 2 (fFn 2 FF_Ltake (fCons (fVar 0) (fCons (fC (.int 26)) (fNil))))) (sSeq (sIf (fT (f2 gEq (fFn 2 FF_Ltake (fCons (fVar 0) (fCons (fC (.int 2)) (fNil)))) (fC (.int 0)))) (sSeq (sSet 2 4 (fComp (fiRange1 (fCons (fVar 1) (fNil))) (fYes) (f2 gMulS (f2 gIx (fC (.str "abcdefghijklmnopqrstuvwxyz")) (fVar 2)) (f2 gAdd (fC (.int 1)) (fVar 5))))) (sRet 2 (f2 gIx (frzE 2 4 (fLstO (fCons (fVar 4) (fCons (fRev (fVar 4) (f1 gNeg (fC (.int 1)))) (fNil))))) (fFn 2 FF_Ltake (fCons (fVar 0) (fCons (fC (.int 2)) (fNil))))))) (sNext)) (sSeq (sSet 2 3 (f2 gIx (fLst (fCons (fC (.str "")) (fCons (fC (.str "x")) (fCons (fC (.str "deed")) (fCons (fC (.str "seventh")) (fNil)))))) (fFn 2 FF_Ltake (fCons (fVar 0) (fCons (fC (.int 4)) (fNil)))))) (sRet 2 (fComp (fiRange1 (fCons (fVar 1) (fNil))) (fYes) (f2 gAdd (f2 gIx (fC (.str "abcdefghijklmnopqrstuvwxyz")) (f2 gMod (f2 gAdd (fVar 2) (f2 gMulS (fC (.int 5)) (fVar 5))) (fC (.int 26)))) (fVar 3))))))
noncomputable def FF_Ldeed_words : FF := runBody 5 m_Ldeed_words
instance : KpF FF_Ldeed_words := inferInstanceAs (KpF (runBody _ _))
set_option maxHeartbeats 2000000 in
theorem ok_Ldeed_words (T : Txt K mg) {f_Ldeed_words : Addr} {fd_Ldeed_words : FuncData} (C_Ldeed_words : Ce K mg "_law_deed_words" s_Ldeed_words f_Ldeed_words fd_Ldeed_words ["pot", "many"]) {f_Ltake : Addr} {fd_Ltake : FuncData} (C_Ltake : Ce K mg "_law_take" s_Ltake f_Ltake fd_Ltake ["pot", "many"]) (G_Ltake : FnD Pg w K mg base 1 f_Ltake fd_Ltake ["pot", "many"] FF_Ltake) : FnD Pg w K mg base 2 f_Ldeed_words fd_Ldeed_words ["pot", "many"] FF_Ldeed_words := by
  have z := fun hb => fn_data (Pg := Pg) (w := w) (mg := mg) (base := base) (k := 1) (m := m_Ldeed_words) C_Ldeed_words.fn sc_Ldeed_words hb
  refine z (fun cdv A outer s H E hr => ?_)
  have hu := hr.units
  have hr_Ltake : Room 1 _ := hr.mono (by omega)
  unfold m_Ldeed_words
  refine ds_cons ?_ ?_
  · refine @ds_set _ _ _ _ _ 2 _ _ sc_Ldeed_words.nd rfl (Or.inr rfl) ?_ inferInstance rfl (.inl rfl)
    refine de_call G_Ltake hr_Ltake C_Ltake.mg C_Ltake.fn.kp C_Ltake.bd ?_
    refine da_cons (dv 0) ?_
    exact da_cons de_int da_nil
  refine ds_cons ?_ ?_
  · refine ds_if ?_ ?_ ds_nil
    · refine dt_cmp (o_eq hu) gEqN_bl ?_ de_int
      refine de_call G_Ltake hr_Ltake C_Ltake.mg C_Ltake.fn.kp C_Ltake.bd ?_
      refine da_cons (dv 0) ?_
      exact da_cons de_int da_nil
    · refine ds_cons ?_ ?_
      · refine ds_setC (i := 4) sc_Ldeed_words.nd rfl rfl (fun _ _ h => h) rfl (blk_of (M := ["pot", "many", "first", "tail", "found"]) rfl) nc_Ldeed_words_0 ?_ (fun cl C s0 H0 fp => ?_) (fun cl C s0 H0 fp => ?_)
        · refine di_range1 rfl T.b_range ?_
          exact da_cons (dv 1) da_nil
        · exact df_nil
        · refine de_op o_mulS ?_ ?_
          · exact de_ix o_ix de_str (dv 2)
          · exact de_op o_add de_int (dv 5)
      refine ds_one ?_
      refine ds_ret ?_
      refine de_ix o_ix ?_ ?_
      · refine de_frz 2 4 ?_
        refine de_lstO ?_
        refine da_cons (dv 4) ?_
        refine da_cons ?_ da_nil
        refine de_rev (dv 4) ?_
        exact de_neg de_int
      · refine de_call G_Ltake hr_Ltake C_Ltake.mg C_Ltake.fn.kp C_Ltake.bd ?_
        refine da_cons (dv 0) ?_
        exact da_cons de_int da_nil
  refine ds_cons ?_ ?_
  · refine @ds_set _ _ _ _ _ 3 _ _ sc_Ldeed_words.nd rfl (Or.inr rfl) ?_ inferInstance rfl (.inl rfl)
    refine de_ix o_ix ?_ ?_
    · refine de_lst ?_
      refine da_cons de_str ?_
      refine da_cons de_str ?_
      refine da_cons de_str ?_
      exact da_cons de_str da_nil
    · refine de_call G_Ltake hr_Ltake C_Ltake.mg C_Ltake.fn.kp C_Ltake.bd ?_
      refine da_cons (dv 0) ?_
      exact da_cons de_int da_nil
  refine ds_one ?_
  refine ds_ret ?_
  refine de_comp (fun _ _ h => h) rfl (blk_of (M := ["pot", "many", "first", "tail", "found"]) rfl) nc_Ldeed_words_1 ?_ (fun cl C s0 H0 fp => ?_) (fun cl C s0 H0 fp => ?_)
  · refine di_range1 rfl T.b_range ?_
    exact da_cons (dv 1) da_nil
  · exact df_nil
  · refine de_op o_add ?_ (dv 3)
    refine de_ix o_ix de_str ?_
    refine de_op o_mod ?_ de_int
    refine de_op o_add (dv 2) ?_
    exact de_op o_mulS de_int (dv 5)
abbrev s_Lheads : Stmt := top 23
theorem sc_Lheads : FnScope ["pot", "names", "many", "found", "word", "left", "params", "k"] ["pot", "names", "many"] (defScope s_Lheads) := ⟨rfl, rfl, rfl, by decide +kernel, rfl, by decide +kernel, by decide +kernel⟩
noncomputable def m_Lheads : FS := sSeq (sSet 3 3 (fLst (fNil))) (sSeq (sFor 3 (fiSeq (fFn 2 FF_Ldeed_words (fCons (fVar 0) (fCons (fVar 2) (fNil))))) (gName' 3 4) (sSeq (sSet 3 5 (fCall gListOf (fCons (fVar 1) (fNil)))) (sSeq (sSet 3 6 (fLst (fNil))) (sSeq (sFor 3 (fiRange1 (fCons (fCall gMin (fCons (fCall gLen (fCons (fVar 1) (fNil))) (fCons (fFn 2 FF_Ltake (fCons (fVar 0) (fCons (fC (.int 5)) (fNil)))) (fNil)))) (fNil))) (gName' 3 7) (sExpr (fLm gAppend (fVar 6) (fCons (fLm gPopAt (fVar 5) (fCons (fFn 2 FF_Ltake (fCons (fVar 0) (fCons (fCall gLen (fCons (fVar 5) (fNil))) (fNil)))) (fNil))) (fNil))))) (sExpr (fLm gAppend (fVar 3) (fCons (fTupF 3 (fCons (fVar 4) (fCons (fCall gTupOf (fCons (fVar 6) (fNil))) (fNil)))) (fNil)))))))) (sRet 3 (fVar 3)))
noncomputable def FF_Lheads : FF := runBody 8 m_Lheads
instance : KpF FF_Lheads := inferInstanceAs (KpF (runBody _ _))
set_option maxHeartbeats 2000000 in
theorem ok_Lheads (T : Txt K mg) {f_Lheads : Addr} {fd_Lheads : FuncData} (C_Lheads : Ce K mg "_law_heads" s_Lheads f_Lheads fd_Lheads ["pot", "names", "many"]) {f_Ldeed_words : Addr} {fd_Ldeed_words : FuncData} (C_Ldeed_words : Ce K mg "_law_deed_words" s_Ldeed_words f_Ldeed_words fd_Ldeed_words ["pot", "many"]) (G_Ldeed_words : FnD Pg w K mg base 2 f_Ldeed_words fd_Ldeed_words ["pot", "many"] FF_Ldeed_words) {f_Ltake : Addr} {fd_Ltake : FuncData} (C_Ltake : Ce K mg "_law_take" s_Ltake f_Ltake fd_Ltake ["pot", "many"]) (G_Ltake : FnD Pg w K mg base 1 f_Ltake fd_Ltake ["pot", "many"] FF_Ltake) : FnD Pg w K mg base 3 f_Lheads fd_Lheads ["pot", "names", "many"] FF_Lheads := by
  have z := fun hb => fn_data (Pg := Pg) (w := w) (mg := mg) (base := base) (k := 2) (m := m_Lheads) C_Lheads.fn sc_Lheads hb
  refine z (fun cdv A outer s H E hr => ?_)
  have hu := hr.units
  have hr_Ldeed_words : Room 2 _ := hr.mono (by omega)
  have hr_Ltake : Room 1 _ := hr.mono (by omega)
  unfold m_Lheads
  refine ds_cons ?_ ?_
  · refine @ds_set _ _ _ _ _ 3 _ _ sc_Lheads.nd rfl (Or.inl rfl) ?_ inferInstance rfl (.inl rfl)
    exact de_lst da_nil
  refine ds_cons ?_ ?_
  · refine ds_for PassesOwn.never rfl ?_ ?_ ?_
    · refine di_seq ?_
      refine de_call G_Ldeed_words hr_Ldeed_words C_Ldeed_words.mg C_Ldeed_words.fn.kp C_Ldeed_words.bd ?_
      refine da_cons (dv 0) ?_
      exact da_cons (dv 2) da_nil
    · exact dg_name (i := 4) sc_Lheads.nd
    · refine ds_cons ?_ ?_
      · refine @ds_set _ _ _ _ _ 5 _ _ sc_Lheads.nd rfl (Or.inl rfl) ?_ inferInstance rfl (.inl rfl)
        refine de_callTy c_list rfl T.b_list bt_list ?_
        exact da_cons (dv 1) da_nil
      refine ds_cons ?_ ?_
      · refine @ds_set _ _ _ _ _ 6 _ _ sc_Lheads.nd rfl (Or.inl rfl) ?_ inferInstance rfl (.inl rfl)
        exact de_lst da_nil
      refine ds_cons ?_ ?_
      · refine ds_for PassesOwn.never rfl ?_ ?_ ?_
        · refine di_range1 rfl T.b_range ?_
          refine da_cons ?_ da_nil
          refine de_callB (c_min rfl) rfl T.b_min bt_min ?_
          refine da_cons ?_ ?_
          · refine de_callB c_len rfl T.b_len bt_len ?_
            exact da_cons (dv 1) da_nil
          · refine da_cons ?_ da_nil
            refine de_call G_Ltake hr_Ltake C_Ltake.mg C_Ltake.fn.kp C_Ltake.bd ?_
            refine da_cons (dv 0) ?_
            exact da_cons de_int da_nil
        · exact dg_name (i := 7) sc_Lheads.nd
        · refine ds_one ?_
          refine ds_expr ?_
          refine de_lm PySem.F.slot_list_append PySem.F.type_list_append m_append (dv 6) ?_
          refine da_cons ?_ da_nil
          refine de_lm PySem.F.slot_list_pop PySem.F.type_list_pop m_popAt (dv 5) ?_
          refine da_cons ?_ da_nil
          refine de_call G_Ltake hr_Ltake C_Ltake.mg C_Ltake.fn.kp C_Ltake.bd ?_
          refine da_cons (dv 0) ?_
          refine da_cons ?_ da_nil
          refine de_callB c_len rfl T.b_len bt_len ?_
          exact da_cons (dv 5) da_nil
      refine ds_one ?_
      refine ds_expr ?_
      refine de_lm PySem.F.slot_list_append PySem.F.type_list_append m_append (dv 3) ?_
      refine da_cons ?_ da_nil
      refine de_tupF ?_
      refine da_cons (dv 4) ?_
      refine da_cons ?_ da_nil
      refine de_callTy c_tuple rfl T.b_tuple bt_tuple ?_
      exact da_cons (dv 6) da_nil
  refine ds_one ?_
  exact ds_ret (dv 3)
abbrev s_Lcall : Stmt := top 24
theorem sc_Lcall : FnScope ["pot", "names", "state", "args", "word", "params"] ["pot", "names", "state"] (defScope s_Lcall) := ⟨rfl, rfl, rfl, by decide +kernel, rfl, by decide +kernel, by decide +kernel⟩
theorem nc_Lcall_0 : ((["pot", "names", "state", "args", "word", "params"] : List Str) ++ (["param"] : List Str)).Nodup := by decide +kernel
noncomputable def m_Lcall : FS := sSeq (sAsg (f2 gIx (f2 gIx (fVar 2) (fC (.int 2))) (fFn 2 FF_Ltake (fCons (fVar 0) (fCons (fCall gLen (fCons (f2 gIx (fVar 2) (fC (.int 2))) (fNil))) (fNil))))) (gPair (gName' 3 4) (gName' 3 5))) (sSeq (sSet 3 3 (fCall gTupOf (fCons (fComp (fiSeq (fVar 5)) (fYes) (fFn 3 (FF_Ldrawn 6) (fCons (fVar 0) (fCons (fVar 1) (fCons (f2 gAdd (fC (.int 1)) (fFn 2 FF_Ltake (fCons (fVar 0) (fCons (fC (.int 2)) (fNil))))) (fNil)))))) (fNil)))) (sRet 3 (fTupF 3 (fCons (fC (.str "call")) (fCons (f2 gIx (fVar 1) (fFn 2 FF_Ltake (fCons (fVar 0) (fCons (fCall gLen (fCons (fVar 1) (fNil))) (fNil))))) (fCons (fVar 4) (fCons (fVar 3) (fCons (fLmS gPop 2 (f2 gIx (fVar 2) (fC (.int 1)))) (fNil)))))))))
noncomputable def FF_Lcall : FF := runBody 6 m_Lcall
instance : KpF FF_Lcall := inferInstanceAs (KpF (runBody _ _))
set_option maxHeartbeats 2000000 in
theorem ok_Lcall (T : Txt K mg) {f_Lcall : Addr} {fd_Lcall : FuncData} (C_Lcall : Ce K mg "_law_call" s_Lcall f_Lcall fd_Lcall ["pot", "names", "state"]) {f_Ltake : Addr} {fd_Ltake : FuncData} (C_Ltake : Ce K mg "_law_take" s_Ltake f_Ltake fd_Ltake ["pot", "many"]) (G_Ltake : FnD Pg w K mg base 1 f_Ltake fd_Ltake ["pot", "many"] FF_Ltake) {f_Ldrawn : Addr} {fd_Ldrawn : FuncData} (C_Ldrawn : Ce K mg "_law_drawn" s_Ldrawn f_Ldrawn fd_Ldrawn ["pot", "names", "deep"]) (G_Ldrawn : FnD Pg w K mg base 8 f_Ldrawn fd_Ldrawn ["pot", "names", "deep"] (FF_Ldrawn 6)) : FnD Pg w K mg base 9 f_Lcall fd_Lcall ["pot", "names", "state"] FF_Lcall := by
  have z := fun hb => fn_data (Pg := Pg) (w := w) (mg := mg) (base := base) (k := 8) (m := m_Lcall) C_Lcall.fn sc_Lcall hb
  refine z (fun cdv A outer s H E hr => ?_)
  have hu := hr.units
  have hr_Ltake : Room 1 _ := hr.mono (by omega)
  have hr_Ldrawn : Room 8 _ := hr.mono (by omega)
  unfold m_Lcall
  refine ds_cons ?_ ?_
  · refine ds_asg ?_ ?_
    · refine de_ix o_ix ?_ ?_
      · exact de_ix o_ix (dv 2) de_int
      · refine de_call G_Ltake hr_Ltake C_Ltake.mg C_Ltake.fn.kp C_Ltake.bd ?_
        refine da_cons (dv 0) ?_
        refine da_cons ?_ da_nil
        refine de_callB c_len rfl T.b_len bt_len ?_
        refine da_cons ?_ da_nil
        exact de_ix o_ix (dv 2) de_int
    · refine dg_pair rfl ?_ ?_
      · exact dg_name (i := 4) sc_Lcall.nd
      · exact dg_name (i := 5) sc_Lcall.nd
  refine ds_cons ?_ ?_
  · refine @ds_set _ _ _ _ _ 3 _ _ sc_Lcall.nd rfl (Or.inl rfl) ?_ inferInstance rfl (.inl rfl)
    refine de_callTy c_tuple rfl T.b_tuple bt_tuple ?_
    refine da_cons ?_ da_nil
    refine de_comp (fun _ _ h => h) rfl (blk_of (M := ["pot", "names", "state", "args", "word", "params"]) rfl) nc_Lcall_0 ?_ (fun cl C s0 H0 fp => ?_) (fun cl C s0 H0 fp => ?_)
    · exact di_seq (dv 5)
    · exact df_nil
    · refine de_call G_Ldrawn hr_Ldrawn C_Ldrawn.mg C_Ldrawn.fn.kp C_Ldrawn.bd ?_
      refine da_cons (dv 0) ?_
      refine da_cons (dv 1) ?_
      refine da_cons ?_ da_nil
      refine de_op o_add de_int ?_
      refine de_call G_Ltake hr_Ltake C_Ltake.mg C_Ltake.fn.kp C_Ltake.bd ?_
      refine da_cons (dv 0) ?_
      exact da_cons de_int da_nil
  refine ds_one ?_
  refine ds_ret ?_
  refine de_tupF ?_
  refine da_cons de_str ?_
  refine da_cons ?_ ?_
  · refine de_ix o_ix (dv 1) ?_
    refine de_call G_Ltake hr_Ltake C_Ltake.mg C_Ltake.fn.kp C_Ltake.bd ?_
    refine da_cons (dv 0) ?_
    refine da_cons ?_ da_nil
    refine de_callB c_len rfl T.b_len bt_len ?_
    exact da_cons (dv 1) da_nil
  · refine da_cons (dv 4) ?_
    refine da_cons (dv 3) ?_
    refine da_cons ?_ da_nil
    refine de_lmS (j := 2) PySem.F.slot_list_pop PySem.F.type_list_pop m_pop ?_
    exact de_ix o_ix (dv 2) de_int
abbrev s_Lrow : Stmt := top 25
theorem sc_Lrow : FnScope ["pot", "names", "state", "deep", "way", "rows", "many"] ["pot", "names", "state", "deep"] (defScope s_Lrow) := ⟨rfl, rfl, rfl, by decide +kernel, rfl, by decide +kernel, by decide +kernel⟩
noncomputable def m_Lrow (FF_Lrow FF_Lrows : FF) : FS := sSeq (sSetS (f2 gSub (f2 gIx (fVar 2) (fC (.int 0))) (fC (.int 1))) (fVar 2) (fC (.int 0))) (sSeq (sSet 4 4 (fFn 2 FF_Ltake (fCons (fVar 0) (fCons (fC (.int 10)) (fNil))))) (sSeq (sIf (fAnd (fT (f2 gGt (fVar 4) (fC (.int 4)))) (fAnd (fT (f2 gLt (fVar 4) (fC (.int 8)))) (fT (fCmpS gNe 2 (f2 gIx (fVar 2) (fC (.int 1))) (fLst (fNil)))))) (sRet 4 (fFn 3 FF_Lcall (fCons (fVar 0) (fCons (fVar 1) (fCons (fVar 2) (fNil)))))) (sNext)) (sSeq (sIf (fAnd (fT (f2 gEq (fVar 4) (fC (.int 8)))) (fT (f2 gLt (fVar 3) (fC (.int 3))))) (sSeq (sSet 4 5 (fFn 4 FF_Lrows (fCons (fVar 0) (fCons (fVar 1) (fCons (fVar 2) (fCons (f2 gAdd (fVar 3) (fC (.int 1))) (fNil))))))) (sRet 4 (fTupF 4 (fCons (fC (.str "when")) (fCons (fFn 3 (FF_Ldrawn 6) (fCons (fVar 0) (fCons (fVar 1) (fCons (fC (.int 2)) (fNil))))) (fCons (fVar 5) (fCons (fFn 4 FF_Lrows (fCons (fVar 0) (fCons (fVar 1) (fCons (fVar 2) (fCons (f2 gAdd (fVar 3) (fC (.int 1))) (fNil)))))) (fNil)))))))) (sNext)) (sSeq (sIf (fAnd (fT (f2 gEq (fVar 4) (fC (.int 9)))) (fT (f2 gLt (fVar 3) (fC (.int 3))))) (sSeq (sSet 4 6 (fTupF 4 (fCons (fC (.str "number")) (fCons (f2 gAdd (fFn 2 FF_Ltake (fCons (fVar 0) (fCons (fC (.int 4)) (fNil)))) (f2 gMulS (fC (.int 10)) (fFn 2 FF_Ltake (fCons (fVar 0) (fCons (fC (.int 2)) (fNil)))))) (fNil))))) (sSeq (sIf (fT (f2 gEq (fFn 2 FF_Ltake (fCons (fVar 0) (fCons (fC (.int 4)) (fNil)))) (fC (.int 0)))) (sSet 4 6 (fFn 3 (FF_Ldrawn 6) (fCons (fVar 0) (fCons (fVar 1) (fCons (fC (.int 2)) (fNil)))))) (sNext)) (sRet 4 (fTupF 4 (fCons (fC (.str "turn")) (fCons (fVar 6) (fCons (fFn 4 FF_Lrows (fCons (fVar 0) (fCons (fVar 1) (fCons (fVar 2) (fCons (f2 gAdd (fVar 3) (fC (.int 1))) (fNil)))))) (fNil)))))))) (sNext)) (sSeq (sIf (fT (f2 gGt (fVar 4) (fC (.int 2)))) (sRet 4 (fTupF 4 (fCons (fC (.str "say")) (fCons (fFn 3 (FF_Ldrawn 6) (fCons (fVar 0) (fCons (fVar 1) (fCons (f2 gAdd (fC (.int 1)) (fFn 2 FF_Ltake (fCons (fVar 0) (fCons (fC (.int 3)) (fNil))))) (fNil))))) (fNil))))) (sNext)) (sRet 4 (fTupF 4 (fCons (fC (.str "set")) (fCons (f2 gIx (fVar 1) (fFn 2 FF_Ltake (fCons (fVar 0) (fCons (fCall gLen (fCons (fVar 1) (fNil))) (fNil))))) (fCons (fFn 3 (FF_Ldrawn 6) (fCons (fVar 0) (fCons (fVar 1) (fCons (f2 gAdd (fC (.int 1)) (fFn 2 FF_Ltake (fCons (fVar 0) (fCons (fC (.int 3)) (fNil))))) (fNil))))) (fNil)))))))))))
abbrev s_Lrows : Stmt := top 26
theorem sc_Lrows : FnScope ["pot", "names", "state", "deep", "found", "k"] ["pot", "names", "state", "deep"] (defScope s_Lrows) := ⟨rfl, rfl, rfl, by decide +kernel, rfl, by decide +kernel, by decide +kernel⟩
noncomputable def m_Lrows (FF_Lrow FF_Lrows : FF) : FS := sSeq (sSet 4 4 (fLst (fNil))) (sSeq (sFor 4 (fiRange1 (fCons (fFn 2 FF_Ltake (fCons (fVar 0) (fCons (f2 gIx (fLst (fCons (fC (.int 6)) (fCons (fC (.int 4)) (fCons (fC (.int 3)) (fNil))))) (f2 gSub (fVar 3) (fC (.int 1)))) (fNil)))) (fNil))) (gName' 4 5) (sIf (fT (f2 gGt (f2 gIx (fVar 2) (fC (.int 0))) (fC (.int 0)))) (sExpr (fLm gAppend (fVar 4) (fCons (fFn 4 FF_Lrow (fCons (fVar 0) (fCons (fVar 1) (fCons (fVar 2) (fCons (fVar 3) (fNil)))))) (fNil)))) (sNext))) (sRet 4 (fCall gTupOf (fCons (fVar 4) (fNil)))))
noncomputable def GF_Lrow : Nat → Nat → FF
  | 0, _ => fun _ => none
  | n + 1, 0 => runBody 7 (m_Lrow (GF_Lrow n 0) (GF_Lrow n 1))
  | n + 1, 1 => runBody 6 (m_Lrows (GF_Lrow n 0) (GF_Lrow n 1))
  | _ + 1, _ + 2 => fun _ => none
instance {n i : Nat} : KpF (GF_Lrow n i) := by
  match n, i with
  | 0, _ => exact ⟨fun _ _ _ h => by cases h⟩
  | n + 1, 0 => exact inferInstanceAs (KpF (runBody _ _))
  | n + 1, 1 => exact inferInstanceAs (KpF (runBody _ _))
  | _ + 1, _ + 2 => exact ⟨fun _ _ _ h => by cases h⟩
noncomputable abbrev FF_Lrows (n : Nat) : FF := GF_Lrow n 1
set_option maxHeartbeats 4000000 in
theorem okg_Lrow (T : Txt K mg) {f_Lrow : Addr} {fd_Lrow : FuncData} (C_Lrow : Ce K mg "_law_row" s_Lrow f_Lrow fd_Lrow ["pot", "names", "state", "deep"]) {f_Lrows : Addr} {fd_Lrows : FuncData} (C_Lrows : Ce K mg "_law_rows" s_Lrows f_Lrows fd_Lrows ["pot", "names", "state", "deep"]) {f_Ltake : Addr} {fd_Ltake : FuncData} (C_Ltake : Ce K mg "_law_take" s_Ltake f_Ltake fd_Ltake ["pot", "many"]) (G_Ltake : FnD Pg w K mg base 1 f_Ltake fd_Ltake ["pot", "many"] FF_Ltake) {f_Lcall : Addr} {fd_Lcall : FuncData} (C_Lcall : Ce K mg "_law_call" s_Lcall f_Lcall fd_Lcall ["pot", "names", "state"]) (G_Lcall : FnD Pg w K mg base 9 f_Lcall fd_Lcall ["pot", "names", "state"] FF_Lcall) {f_Ldrawn : Addr} {fd_Ldrawn : FuncData} (C_Ldrawn : Ce K mg "_law_drawn" s_Ldrawn f_Ldrawn fd_Ldrawn ["pot", "names", "deep"]) (G_Ldrawn : FnD Pg w K mg base 8 f_Ldrawn fd_Ldrawn ["pot", "names", "deep"] (FF_Ldrawn 6)) : ∀ n, FnD Pg w K mg base (n + 9) f_Lrow fd_Lrow ["pot", "names", "state", "deep"] (GF_Lrow n 0) ∧ FnD Pg w K mg base (n + 9) f_Lrows fd_Lrows ["pot", "names", "state", "deep"] (GF_Lrow n 1) := by
  intro n
  induction n with
  | zero => exact ⟨fn_none, fn_none⟩
  | succ n ih =>
  obtain ⟨G_Lrow, G_Lrows⟩ := ih
  rw [show n + 1 + 9 = n + 9 + 1 by omega]
  refine ⟨?_, ?_⟩
  · have z := fun hb => fn_data (Pg := Pg) (w := w) (mg := mg) (base := base) (k := n + 9) (m := m_Lrow (GF_Lrow n 0) (GF_Lrow n 1)) C_Lrow.fn sc_Lrow hb
    refine z (fun cdv A outer s H E hr => ?_)
    have hu := hr.units
    have hr_Lrow : Room (n + 9) _ := hr
    have hr_Lrows : Room (n + 9) _ := hr
    have hr_Ltake : Room 1 _ := hr.mono (by omega)
    have hr_Lcall : Room 9 _ := hr.mono (by omega)
    have hr_Ldrawn : Room 8 _ := hr.mono (by omega)
    unfold m_Lrow
    refine ds_cons ?_ ?_
    · refine ds_setS ?_ (dv 2) de_int
      refine de_op o_sub ?_ de_int
      exact de_ix o_ix (dv 2) de_int
    refine ds_cons ?_ ?_
    · refine @ds_set _ _ _ _ _ 4 _ _ sc_Lrow.nd rfl (Or.inl rfl) ?_ inferInstance rfl (.inl rfl)
      refine de_call G_Ltake hr_Ltake C_Ltake.mg C_Ltake.fn.kp C_Ltake.bd ?_
      refine da_cons (dv 0) ?_
      exact da_cons de_int da_nil
    refine ds_cons ?_ ?_
    · refine ds_if ?_ ?_ ds_nil
      · refine DW.dt ?_
        refine dw_and ?_ ?_
        · exact dt_cmp o_gt gI_bl (dv 4) de_int
        · refine dw_and ?_ ?_
          · exact dt_cmp o_lt gI_bl (dv 4) de_int
          · refine dw_and1 ?_
            refine dt_cmpS (j := 2) (o_ne hu) gEqN_bl ?_ ?_
            · exact de_ix o_ix (dv 2) de_int
            · exact de_lst da_nil
      · refine ds_one ?_
        refine ds_ret ?_
        refine de_call G_Lcall hr_Lcall C_Lcall.mg C_Lcall.fn.kp C_Lcall.bd ?_
        refine da_cons (dv 0) ?_
        refine da_cons (dv 1) ?_
        exact da_cons (dv 2) da_nil
    refine ds_cons ?_ ?_
    · refine ds_if ?_ ?_ ds_nil
      · refine DW.dt ?_
        refine dw_and ?_ ?_
        · exact dt_cmp (o_eq hu) gEqN_bl (dv 4) de_int
        · refine dw_and1 ?_
          exact dt_cmp o_lt gI_bl (dv 3) de_int
      · refine ds_cons ?_ ?_
        · refine @ds_set _ _ _ _ _ 5 _ _ sc_Lrow.nd rfl (Or.inl rfl) ?_ inferInstance rfl (.inl rfl)
          refine de_call G_Lrows hr_Lrows C_Lrows.mg C_Lrows.fn.kp C_Lrows.bd ?_
          refine da_cons (dv 0) ?_
          refine da_cons (dv 1) ?_
          refine da_cons (dv 2) ?_
          refine da_cons ?_ da_nil
          exact de_op o_add (dv 3) de_int
        refine ds_one ?_
        refine ds_ret ?_
        refine de_tupF ?_
        refine da_cons de_str ?_
        refine da_cons ?_ ?_
        · refine de_call G_Ldrawn hr_Ldrawn C_Ldrawn.mg C_Ldrawn.fn.kp C_Ldrawn.bd ?_
          refine da_cons (dv 0) ?_
          refine da_cons (dv 1) ?_
          exact da_cons de_int da_nil
        · refine da_cons (dv 5) ?_
          refine da_cons ?_ da_nil
          refine de_call G_Lrows hr_Lrows C_Lrows.mg C_Lrows.fn.kp C_Lrows.bd ?_
          refine da_cons (dv 0) ?_
          refine da_cons (dv 1) ?_
          refine da_cons (dv 2) ?_
          refine da_cons ?_ da_nil
          exact de_op o_add (dv 3) de_int
    refine ds_cons ?_ ?_
    · refine ds_if ?_ ?_ ds_nil
      · refine DW.dt ?_
        refine dw_and ?_ ?_
        · exact dt_cmp (o_eq hu) gEqN_bl (dv 4) de_int
        · refine dw_and1 ?_
          exact dt_cmp o_lt gI_bl (dv 3) de_int
      · refine ds_cons ?_ ?_
        · refine @ds_set _ _ _ _ _ 6 _ _ sc_Lrow.nd rfl (Or.inl rfl) ?_ inferInstance rfl (.inl rfl)
          refine de_tupF ?_
          refine da_cons de_str ?_
          refine da_cons ?_ da_nil
          refine de_op o_add ?_ ?_
          · refine de_call G_Ltake hr_Ltake C_Ltake.mg C_Ltake.fn.kp C_Ltake.bd ?_
            refine da_cons (dv 0) ?_
            exact da_cons de_int da_nil
          · refine de_op o_mulS de_int ?_
            refine de_call G_Ltake hr_Ltake C_Ltake.mg C_Ltake.fn.kp C_Ltake.bd ?_
            refine da_cons (dv 0) ?_
            exact da_cons de_int da_nil
        refine ds_cons ?_ ?_
        · refine ds_if ?_ ?_ ds_nil
          · refine dt_cmp (o_eq hu) gEqN_bl ?_ de_int
            refine de_call G_Ltake hr_Ltake C_Ltake.mg C_Ltake.fn.kp C_Ltake.bd ?_
            refine da_cons (dv 0) ?_
            exact da_cons de_int da_nil
          · refine ds_one ?_
            refine @ds_set _ _ _ _ _ 6 _ _ sc_Lrow.nd rfl (Or.inl rfl) ?_ inferInstance rfl (.inl rfl)
            refine de_call G_Ldrawn hr_Ldrawn C_Ldrawn.mg C_Ldrawn.fn.kp C_Ldrawn.bd ?_
            refine da_cons (dv 0) ?_
            refine da_cons (dv 1) ?_
            exact da_cons de_int da_nil
        refine ds_one ?_
        refine ds_ret ?_
        refine de_tupF ?_
        refine da_cons de_str ?_
        refine da_cons (dv 6) ?_
        refine da_cons ?_ da_nil
        refine de_call G_Lrows hr_Lrows C_Lrows.mg C_Lrows.fn.kp C_Lrows.bd ?_
        refine da_cons (dv 0) ?_
        refine da_cons (dv 1) ?_
        refine da_cons (dv 2) ?_
        refine da_cons ?_ da_nil
        exact de_op o_add (dv 3) de_int
    refine ds_cons ?_ ?_
    · refine ds_if ?_ ?_ ds_nil
      · exact dt_cmp o_gt gI_bl (dv 4) de_int
      · refine ds_one ?_
        refine ds_ret ?_
        refine de_tupF ?_
        refine da_cons de_str ?_
        refine da_cons ?_ da_nil
        refine de_call G_Ldrawn hr_Ldrawn C_Ldrawn.mg C_Ldrawn.fn.kp C_Ldrawn.bd ?_
        refine da_cons (dv 0) ?_
        refine da_cons (dv 1) ?_
        refine da_cons ?_ da_nil
        refine de_op o_add de_int ?_
        refine de_call G_Ltake hr_Ltake C_Ltake.mg C_Ltake.fn.kp C_Ltake.bd ?_
        refine da_cons (dv 0) ?_
        exact da_cons de_int da_nil
    refine ds_one ?_
    refine ds_ret ?_
    refine de_tupF ?_
    refine da_cons de_str ?_
    refine da_cons ?_ ?_
    · refine de_ix o_ix (dv 1) ?_
      refine de_call G_Ltake hr_Ltake C_Ltake.mg C_Ltake.fn.kp C_Ltake.bd ?_
      refine da_cons (dv 0) ?_
      refine da_cons ?_ da_nil
      refine de_callB c_len rfl T.b_len bt_len ?_
      exact da_cons (dv 1) da_nil
    · refine da_cons ?_ da_nil
      refine de_call G_Ldrawn hr_Ldrawn C_Ldrawn.mg C_Ldrawn.fn.kp C_Ldrawn.bd ?_
      refine da_cons (dv 0) ?_
      refine da_cons (dv 1) ?_
      refine da_cons ?_ da_nil
      refine de_op o_add de_int ?_
      refine de_call G_Ltake hr_Ltake C_Ltake.mg C_Ltake.fn.kp C_Ltake.bd ?_
      refine da_cons (dv 0) ?_
      exact da_cons de_int da_nil
  · have z := fun hb => fn_data (Pg := Pg) (w := w) (mg := mg) (base := base) (k := n + 9) (m := m_Lrows (GF_Lrow n 0) (GF_Lrow n 1)) C_Lrows.fn sc_Lrows hb
    refine z (fun cdv A outer s H E hr => ?_)
    have hu := hr.units
    have hr_Lrow : Room (n + 9) _ := hr
    have hr_Lrows : Room (n + 9) _ := hr
    have hr_Ltake : Room 1 _ := hr.mono (by omega)
    unfold m_Lrows
    refine ds_cons ?_ ?_
    · refine @ds_set _ _ _ _ _ 4 _ _ sc_Lrows.nd rfl (Or.inl rfl) ?_ inferInstance rfl (.inl rfl)
      exact de_lst da_nil
    refine ds_cons ?_ ?_
    · refine ds_for PassesOwn.never rfl ?_ ?_ ?_
      · refine di_range1 rfl T.b_range ?_
        refine da_cons ?_ da_nil
        refine de_call G_Ltake hr_Ltake C_Ltake.mg C_Ltake.fn.kp C_Ltake.bd ?_
        refine da_cons (dv 0) ?_
        refine da_cons ?_ da_nil
        refine de_ix o_ix ?_ ?_
        · refine de_lst ?_
          refine da_cons de_int ?_
          refine da_cons de_int ?_
          exact da_cons de_int da_nil
        · exact de_op o_sub (dv 3) de_int
      · exact dg_name (i := 5) sc_Lrows.nd
      · refine ds_one ?_
        refine ds_if ?_ ?_ ds_nil
        · refine dt_cmp o_gt gI_bl ?_ de_int
          exact de_ix o_ix (dv 2) de_int
        · refine ds_one ?_
          refine ds_expr ?_
          refine de_lm PySem.F.slot_list_append PySem.F.type_list_append m_append (dv 4) ?_
          refine da_cons ?_ da_nil
          refine de_call G_Lrow hr_Lrow C_Lrow.mg C_Lrow.fn.kp C_Lrow.bd ?_
          refine da_cons (dv 0) ?_
          refine da_cons (dv 1) ?_
          refine da_cons (dv 2) ?_
          exact da_cons (dv 3) da_nil
    refine ds_one ?_
    refine ds_ret ?_
    refine de_callTy c_tuple rfl T.b_tuple bt_tuple ?_
    exact da_cons (dv 4) da_nil
abbrev s_Lbook : Stmt := top 27
theorem sc_Lbook : FnScope ["cells", "most", "pot", "names", "heads", "first", "step", "marks", "found", "k", "state", "rows", "word", "params"] ["cells", "most"] (defScope s_Lbook) := ⟨rfl, rfl, rfl, by decide +kernel, rfl, by decide +kernel, by decide +kernel⟩
theorem nc_Lbook_0 : ((["cells", "most", "pot", "names", "heads", "first", "step", "marks", "found", "#9", "state", "rows", "word", "params"] : List Str) ++ (["k"] : List Str)).Nodup := by decide +kernel
noncomputable def m_Lbook : FS := sSeq (sSet 2 2 (fFn 2 FF_Lpot (fCons (f2 gIx (fVar 0) (fC (.int 0))) (fCons (fC (.int 0)) (fNil))))) (sSeq (sSet 2 3 (fFn 2 FF_Lnames (fCons (fVar 2) (fCons (f2 gAdd (fC (.int 1)) (fFn 2 FF_Ltake (fCons (fVar 2) (fCons (fC (.int 6)) (fNil))))) (fNil))))) (sSeq (sSet 2 4 (fFn 3 FF_Lheads (fCons (fVar 2) (fCons (fVar 3) (fCons (f2 gAdd (fC (.int 1)) (fFn 2 FF_Ltake (fCons (fVar 2) (fCons (fVar 1) (fNil))))) (fNil)))))) (sSeq (sSet 2 5 (frzE 2 4 (fFn 2 FF_Ltake (fCons (fVar 2) (fCons (fC (.int 100)) (fNil)))))) (sSeq (sSet 2 6 (f2 gIx (fLst (fCons (fC (.int 1)) (fCons (fC (.int 3)) (fCons (fC (.int 7)) (fCons (fC (.int 9)) (fCons (fC (.int 51)) (fCons (fC (.int 99)) (fNil)))))))) (fFn 2 FF_Ltake (fCons (fVar 2) (fCons (fC (.int 6)) (fNil)))))) (sSeq (sSet 2 7 (fComp (fiRange1 (fCons (f2 gAdd (fC (.int 1)) (fFn 2 FF_Ltake (fCons (fVar 2) (fCons (fC (.int 10)) (fNil))))) (fNil))) (fYes) (f2 gMod (f2 gAdd (fVar 5) (f2 gMulS (fVar 6) (fVar 14))) (fC (.int 100))))) (sSeq (sSet 2 8 (fLst (fNil))) (sSeq (sFor 2 (fiEnum (fCons (fVar 4) (fNil))) (gPair (gName' 2 9) (gPair (gName' 2 12) (gName' 2 13))) (sSeq (sSet 2 2 (fFn 2 FF_Lpot (fCons (f2 gIx (fVar 0) (f2 gMod (f2 gAdd (fVar 9) (fC (.int 1))) (fC (.int 8)))) (fCons (f2 gAdd (fVar 9) (fC (.int 1))) (fNil))))) (sAlias 2 7 4 10 (f2 gIx (fLst (fCons (fC (.int 8)) (fCons (fC (.int 20)) (fCons (fC (.int 12)) (fNil))))) (fFn 2 FF_Ltake (fCons (fVar 2) (fCons (fC (.int 3)) (fNil))))) (sSeq (sSet 2 11 (fFn 4 (FF_Lrows 8) (fCons (fVar 2) (fCons (fVar 3) (fCons (fVar 10) (fCons (fC (.int 1)) (fNil))))))) (sExpr (fLm gAppend (fVar 8) (fCons (fTupF 2 (fCons (fVar 12) (fCons (fVar 13) (fCons (fVar 11) (fCons (fFn 3 (FF_Ldrawn 6) (fCons (fVar 2) (fCons (fVar 3) (fCons (f2 gAdd (fC (.int 1)) (fFn 2 FF_Ltake (fCons (fVar 2) (fCons (fC (.int 3)) (fNil))))) (fNil))))) (fNil)))))) (fNil)))))))) (sRet 2 (fVar 8)))))))))
noncomputable def FF_Lbook : FF := runBody 14 m_Lbook
instance : KpF FF_Lbook := inferInstanceAs (KpF (runBody _ _))
set_option maxHeartbeats 2000000 in
theorem ok_Lbook (T : Txt K mg) {f_Lbook : Addr} {fd_Lbook : FuncData} (C_Lbook : Ce K mg "_law_book" s_Lbook f_Lbook fd_Lbook ["cells", "most"]) {f_Lpot : Addr} {fd_Lpot : FuncData} (C_Lpot : Ce K mg "_law_pot" s_Lpot f_Lpot fd_Lpot ["cell", "k"]) (G_Lpot : FnD Pg w K mg base 1 f_Lpot fd_Lpot ["cell", "k"] FF_Lpot) {f_Ltake : Addr} {fd_Ltake : FuncData} (C_Ltake : Ce K mg "_law_take" s_Ltake f_Ltake fd_Ltake ["pot", "many"]) (G_Ltake : FnD Pg w K mg base 1 f_Ltake fd_Ltake ["pot", "many"] FF_Ltake) {f_Lnames : Addr} {fd_Lnames : FuncData} (C_Lnames : Ce K mg "_law_names" s_Lnames f_Lnames fd_Lnames ["pot", "many"]) (G_Lnames : FnD Pg w K mg base 2 f_Lnames fd_Lnames ["pot", "many"] FF_Lnames) {f_Lheads : Addr} {fd_Lheads : FuncData} (C_Lheads : Ce K mg "_law_heads" s_Lheads f_Lheads fd_Lheads ["pot", "names", "many"]) (G_Lheads : FnD Pg w K mg base 3 f_Lheads fd_Lheads ["pot", "names", "many"] FF_Lheads) {f_Lrows : Addr} {fd_Lrows : FuncData} (C_Lrows : Ce K mg "_law_rows" s_Lrows f_Lrows fd_Lrows ["pot", "names", "state", "deep"]) (G_Lrows : FnD Pg w K mg base 17 f_Lrows fd_Lrows ["pot", "names", "state", "deep"] (FF_Lrows 8)) {f_Ldrawn : Addr} {fd_Ldrawn : FuncData} (C_Ldrawn : Ce K mg "_law_drawn" s_Ldrawn f_Ldrawn fd_Ldrawn ["pot", "names", "deep"]) (G_Ldrawn : FnD Pg w K mg base 8 f_Ldrawn fd_Ldrawn ["pot", "names", "deep"] (FF_Ldrawn 6)) : FnD Pg w K mg base 18 f_Lbook fd_Lbook ["cells", "most"] FF_Lbook := by
  have z := fun hb => fn_data (Pg := Pg) (w := w) (mg := mg) (base := base) (k := 17) (m := m_Lbook) C_Lbook.fn sc_Lbook hb
  refine z (fun cdv A outer s H E hr => ?_)
  have hu := hr.units
  have hr_Lpot : Room 1 _ := hr.mono (by omega)
  have hr_Ltake : Room 1 _ := hr.mono (by omega)
  have hr_Lnames : Room 2 _ := hr.mono (by omega)
  have hr_Lheads : Room 3 _ := hr.mono (by omega)
  have hr_Lrows : Room 17 _ := hr.mono (by omega)
  have hr_Ldrawn : Room 8 _ := hr.mono (by omega)
  unfold m_Lbook
  refine ds_cons ?_ ?_
  · refine @ds_set _ _ _ _ _ 2 _ _ sc_Lbook.nd rfl (Or.inl rfl) ?_ inferInstance rfl (.inl rfl)
    refine de_call G_Lpot hr_Lpot C_Lpot.mg C_Lpot.fn.kp C_Lpot.bd ?_
    refine da_cons ?_ ?_
    · exact de_ix o_ix (dv 0) de_int
    · exact da_cons de_int da_nil
  refine ds_cons ?_ ?_
  · refine @ds_set _ _ _ _ _ 3 _ _ sc_Lbook.nd rfl (Or.inl rfl) ?_ inferInstance rfl (.inl rfl)
    refine de_call G_Lnames hr_Lnames C_Lnames.mg C_Lnames.fn.kp C_Lnames.bd ?_
    refine da_cons (dv 2) ?_
    refine da_cons ?_ da_nil
    refine de_op o_add de_int ?_
    refine de_call G_Ltake hr_Ltake C_Ltake.mg C_Ltake.fn.kp C_Ltake.bd ?_
    refine da_cons (dv 2) ?_
    exact da_cons de_int da_nil
  refine ds_cons ?_ ?_
  · refine @ds_set _ _ _ _ _ 4 _ _ sc_Lbook.nd rfl (Or.inl rfl) ?_ inferInstance rfl (.inl rfl)
    refine de_call G_Lheads hr_Lheads C_Lheads.mg C_Lheads.fn.kp C_Lheads.bd ?_
    refine da_cons (dv 2) ?_
    refine da_cons (dv 3) ?_
    refine da_cons ?_ da_nil
    refine de_op o_add de_int ?_
    refine de_call G_Ltake hr_Ltake C_Ltake.mg C_Ltake.fn.kp C_Ltake.bd ?_
    refine da_cons (dv 2) ?_
    exact da_cons (dv 1) da_nil
  refine ds_cons ?_ ?_
  · refine @ds_set _ _ _ _ _ 5 _ _ sc_Lbook.nd rfl (Or.inr rfl) ?_ inferInstance rfl (.inl rfl)
    refine de_frz 2 4 ?_
    refine de_call G_Ltake hr_Ltake C_Ltake.mg C_Ltake.fn.kp C_Ltake.bd ?_
    refine da_cons (dv 2) ?_
    exact da_cons de_int da_nil
  refine ds_cons ?_ ?_
  · refine @ds_set _ _ _ _ _ 6 _ _ sc_Lbook.nd rfl (Or.inr rfl) ?_ inferInstance rfl (.inl rfl)
    refine de_ix o_ix ?_ ?_
    · refine de_lst ?_
      refine da_cons de_int ?_
      refine da_cons de_int ?_
      refine da_cons de_int ?_
      refine da_cons de_int ?_
      refine da_cons de_int ?_
      exact da_cons de_int da_nil
    · refine de_call G_Ltake hr_Ltake C_Ltake.mg C_Ltake.fn.kp C_Ltake.bd ?_
      refine da_cons (dv 2) ?_
      exact da_cons de_int da_nil
  refine ds_cons ?_ ?_
  · refine ds_setC (i := 7) sc_Lbook.nd rfl rfl (fun _ _ h => h) rfl (blk_of (M := ["cells", "most", "pot", "names", "heads", "first", "step", "marks", "found", "#9", "state", "rows", "word", "params"]) rfl) nc_Lbook_0 ?_ (fun cl C s0 H0 fp => ?_) (fun cl C s0 H0 fp => ?_)
    · refine di_range1 rfl T.b_range ?_
      refine da_cons ?_ da_nil
      refine de_op o_add de_int ?_
      refine de_call G_Ltake hr_Ltake C_Ltake.mg C_Ltake.fn.kp C_Ltake.bd ?_
      refine da_cons (dv 2) ?_
      exact da_cons de_int da_nil
    · exact df_nil
    · refine de_op o_mod ?_ de_int
      refine de_op o_add (dv 5) ?_
      exact de_op o_mulS (dv 6) (dv 14)
  refine ds_cons ?_ ?_
  · refine @ds_set _ _ _ _ _ 8 _ _ sc_Lbook.nd rfl (Or.inl rfl) ?_ inferInstance rfl (.inl rfl)
    exact de_lst da_nil
  refine ds_cons ?_ ?_
  · refine ds_for PassesOwn.never rfl ?_ ?_ ?_
    · refine di_enum rfl T.b_enumerate ?_
      exact da_cons (dv 4) da_nil
    · refine dg_pair rfl ?_ ?_
      · exact dg_name (i := 9) sc_Lbook.nd
      · refine dg_pair rfl ?_ ?_
        · exact dg_name (i := 12) sc_Lbook.nd
        · exact dg_name (i := 13) sc_Lbook.nd
    · refine ds_cons ?_ ?_
      · refine @ds_set _ _ _ _ _ 2 _ _ sc_Lbook.nd rfl (Or.inl rfl) ?_ inferInstance rfl (.inl rfl)
        refine de_call G_Lpot hr_Lpot C_Lpot.mg C_Lpot.fn.kp C_Lpot.bd ?_
        refine da_cons ?_ ?_
        · refine de_ix o_ix (dv 0) ?_
          refine de_op o_mod ?_ de_int
          exact de_op o_add (dv 9) de_int
        · refine da_cons ?_ da_nil
          exact de_op o_add (dv 9) de_int
      refine ds_alias (jm := 7) (jh := 4) (js := 10) sc_Lbook.nd rfl (Or.inl rfl) ?_ (pe_var rfl (by first | exact Or.inl rfl | exact Or.inr (Or.inl rfl) | exact Or.inr (Or.inr rfl))) (pe_var rfl (by first | exact Or.inl rfl | exact Or.inr (Or.inl rfl) | exact Or.inr (Or.inr rfl))) ?_
      · refine de_ix o_ix ?_ ?_
        · refine de_lst ?_
          refine da_cons de_int ?_
          refine da_cons de_int ?_
          exact da_cons de_int da_nil
        · refine de_call G_Ltake hr_Ltake C_Ltake.mg C_Ltake.fn.kp C_Ltake.bd ?_
          refine da_cons (dv 2) ?_
          exact da_cons de_int da_nil
      · refine ds_cons ?_ ?_
        · refine @ds_set _ _ _ _ _ 11 _ _ sc_Lbook.nd rfl (Or.inl rfl) ?_ inferInstance rfl (.inl rfl)
          refine de_call G_Lrows hr_Lrows C_Lrows.mg C_Lrows.fn.kp C_Lrows.bd ?_
          refine da_cons (dv 2) ?_
          refine da_cons (dv 3) ?_
          refine da_cons (dv 10) ?_
          exact da_cons de_int da_nil
        refine ds_one ?_
        refine ds_expr ?_
        refine de_lm PySem.F.slot_list_append PySem.F.type_list_append m_append (dv 8) ?_
        refine da_cons ?_ da_nil
        refine de_tupF ?_
        refine da_cons (dv 12) ?_
        refine da_cons (dv 13) ?_
        refine da_cons (dv 11) ?_
        refine da_cons ?_ da_nil
        refine de_call G_Ldrawn hr_Ldrawn C_Ldrawn.mg C_Ldrawn.fn.kp C_Ldrawn.bd ?_
        refine da_cons (dv 2) ?_
        refine da_cons (dv 3) ?_
        refine da_cons ?_ da_nil
        refine de_op o_add de_int ?_
        refine de_call G_Ltake hr_Ltake C_Ltake.mg C_Ltake.fn.kp C_Ltake.bd ?_
        refine da_cons (dv 2) ?_
        exact da_cons de_int da_nil
  refine ds_one ?_
  exact ds_ret (dv 8)
abbrev s_Ldrawn_book : Stmt := top 28
theorem sc_Ldrawn_book : FnScope ["script", "cells"] ["script"] (defScope s_Ldrawn_book) := ⟨rfl, rfl, rfl, by decide +kernel, rfl, by decide +kernel, by decide +kernel⟩
noncomputable def m_Ldrawn_book : FS := sSeq (sSet 1 1 (fFn 2 FF_Lfolded (fCons (fVar 0) (fCons (fC (.int 8)) (fNil))))) (sRet 1 (fFn 2 FF_Lbook (fCons (fVar 1) (fCons (f2 gIx (fLst (fCons (fC (.int 5)) (fCons (fC (.int 8)) (fNil)))) (fCall gIntOf (fCons (f2 gEq (f2 gMod (f2 gIx (fVar 1) (fC (.int 1))) (fC (.int 8))) (fC (.int 3))) (fNil)))) (fNil)))))
noncomputable def FF_Ldrawn_book : FF := runBody 2 m_Ldrawn_book
instance : KpF FF_Ldrawn_book := inferInstanceAs (KpF (runBody _ _))
set_option maxHeartbeats 2000000 in
theorem ok_Ldrawn_book (T : Txt K mg) {f_Ldrawn_book : Addr} {fd_Ldrawn_book : FuncData} (C_Ldrawn_book : Ce K mg "_law_drawn_book" s_Ldrawn_book f_Ldrawn_book fd_Ldrawn_book ["script"]) {f_Lfolded : Addr} {fd_Lfolded : FuncData} (C_Lfolded : Ce K mg "_law_folded" s_Lfolded f_Lfolded fd_Lfolded ["script", "many"]) (G_Lfolded : FnD Pg w K mg base 1 f_Lfolded fd_Lfolded ["script", "many"] FF_Lfolded) {f_Lbook : Addr} {fd_Lbook : FuncData} (C_Lbook : Ce K mg "_law_book" s_Lbook f_Lbook fd_Lbook ["cells", "most"]) (G_Lbook : FnD Pg w K mg base 18 f_Lbook fd_Lbook ["cells", "most"] FF_Lbook) : FnD Pg w K mg base 19 f_Ldrawn_book fd_Ldrawn_book ["script"] FF_Ldrawn_book := by
  have z := fun hb => fn_data (Pg := Pg) (w := w) (mg := mg) (base := base) (k := 18) (m := m_Ldrawn_book) C_Ldrawn_book.fn sc_Ldrawn_book hb
  refine z (fun cdv A outer s H E hr => ?_)
  have hu := hr.units
  have hr_Lfolded : Room 1 _ := hr.mono (by omega)
  have hr_Lbook : Room 18 _ := hr.mono (by omega)
  unfold m_Ldrawn_book
  refine ds_cons ?_ ?_
  · refine @ds_set _ _ _ _ _ 1 _ _ sc_Ldrawn_book.nd rfl (Or.inl rfl) ?_ inferInstance rfl (.inl rfl)
    refine de_call G_Lfolded hr_Lfolded C_Lfolded.mg C_Lfolded.fn.kp C_Lfolded.bd ?_
    refine da_cons (dv 0) ?_
    exact da_cons de_int da_nil
  refine ds_one ?_
  refine ds_ret ?_
  refine de_call G_Lbook hr_Lbook C_Lbook.mg C_Lbook.fn.kp C_Lbook.bd ?_
  refine da_cons (dv 1) ?_
  refine da_cons ?_ da_nil
  refine de_ix o_ix ?_ ?_
  · refine de_lst ?_
    refine da_cons de_int ?_
    exact da_cons de_int da_nil
  · refine de_callTy c_int rfl T.b_int bt_int ?_
    refine da_cons ?_ da_nil
    refine de_cmp (o_eq hu) ?_ de_int
    refine de_op o_mod ?_ de_int
    exact de_ix o_ix (dv 1) de_int
abbrev s_Lread_through : Stmt := top 29
theorem sc_Lread_through : FnScope ["rows", "left", "found", "row"] ["rows"] (defScope s_Lread_through) := ⟨rfl, rfl, rfl, by decide +kernel, rfl, by decide +kernel, by decide +kernel⟩
noncomputable def m_Lread_through : FS := sSeq (sSet 1 1 (fRev (fCall gListOf (fCons (fVar 0) (fNil))) (f1 gNeg (fC (.int 1))))) (sSeq (sSet 1 2 (fLst (fNil))) (sSeq (sWhile 200 (fT (f2 gNe (fVar 1) (fLst (fNil)))) (sSeq (sSet 1 3 (fLm gPop (fVar 1) fNil)) (sSeq (sExpr (fLm gAppend (fVar 2) (fCons (fVar 3) (fNil)))) (sIf (fT (f2 gEq (f2 gIx (fVar 3) (fC (.int 0))) (fC (.str "when")))) (sExpr (fLm gExtT (fVar 1) (fCons (fRevT (f2 gCatT (f2 gIx (fVar 3) (fC (.int 2))) (f2 gIx (fVar 3) (fC (.int 3)))) (f1 gNeg (fC (.int 1)))) (fNil)))) (sIf (fT (f2 gEq (f2 gIx (fVar 3) (fC (.int 0))) (fC (.str "turn")))) (sExpr (fLm gExtT (fVar 1) (fCons (fRevT (f2 gIx (fVar 3) (fC (.int 2))) (f1 gNeg (fC (.int 1)))) (fNil)))) (sNext)))))) (sRet 1 (fVar 2))))
noncomputable def FF_Lread_through : FF := runBody 4 m_Lread_through
instance : KpF FF_Lread_through := inferInstanceAs (KpF (runBody _ _))
set_option maxHeartbeats 2000000 in
theorem ok_Lread_through (T : Txt K mg) {f_Lread_through : Addr} {fd_Lread_through : FuncData} (C_Lread_through : Ce K mg "_law_read_through" s_Lread_through f_Lread_through fd_Lread_through ["rows"])  : FnD Pg w K mg base 1 f_Lread_through fd_Lread_through ["rows"] FF_Lread_through := by
  have z := fun hb => fn_data (Pg := Pg) (w := w) (mg := mg) (base := base) (k := 0) (m := m_Lread_through) C_Lread_through.fn sc_Lread_through hb
  refine z (fun cdv A outer s H E hr => ?_)
  have hu := hr.units
  unfold m_Lread_through
  refine ds_cons ?_ ?_
  · refine @ds_set _ _ _ _ _ 1 _ _ sc_Lread_through.nd rfl (Or.inl rfl) ?_ inferInstance rfl (.inl rfl)
    refine de_rev ?_ ?_
    · refine de_callTy c_list rfl T.b_list bt_list ?_
      exact da_cons (dv 0) da_nil
    · exact de_neg de_int
  refine ds_cons ?_ ?_
  · refine @ds_set _ _ _ _ _ 2 _ _ sc_Lread_through.nd rfl (Or.inl rfl) ?_ inferInstance rfl (.inl rfl)
    exact de_lst da_nil
  refine ds_cons ?_ ?_
  · refine ds_while 200 PassesOwn.never ?_ ?_
    · refine dt_cmp (o_ne hu) gEqN_bl (dv 1) ?_
      exact de_lst da_nil
    · refine ds_cons ?_ ?_
      · refine @ds_set _ _ _ _ _ 3 _ _ sc_Lread_through.nd rfl (Or.inl rfl) ?_ inferInstance rfl (.inl rfl)
        exact de_lm0 PySem.F.slot_list_pop PySem.F.type_list_pop m_pop (dv 1)
      refine ds_cons ?_ ?_
      · refine ds_expr ?_
        refine de_lm PySem.F.slot_list_append PySem.F.type_list_append m_append (dv 2) ?_
        exact da_cons (dv 3) da_nil
      refine ds_one ?_
      refine ds_if ?_ ?_ ?_
      · refine dt_cmp (o_eq hu) gEqN_bl ?_ de_str
        exact de_ix o_ix (dv 3) de_int
      · refine ds_one ?_
        refine ds_expr ?_
        refine de_lm PySem.F.slot_list_extend PySem.F.type_list_extend m_extT (dv 1) ?_
        refine da_cons ?_ da_nil
        refine de_revT ?_ ?_
        · refine de_op o_catT ?_ ?_
          · exact de_ix o_ix (dv 3) de_int
          · exact de_ix o_ix (dv 3) de_int
        · exact de_neg de_int
      · refine ds_one ?_
        refine ds_if ?_ ?_ ds_nil
        · refine dt_cmp (o_eq hu) gEqN_bl ?_ de_str
          exact de_ix o_ix (dv 3) de_int
        · refine ds_one ?_
          refine ds_expr ?_
          refine de_lm PySem.F.slot_list_extend PySem.F.type_list_extend m_extT (dv 1) ?_
          refine da_cons ?_ da_nil
          refine de_revT ?_ ?_
          · exact de_ix o_ix (dv 3) de_int
          · exact de_neg de_int
  refine ds_one ?_
  exact ds_ret (dv 2)
abbrev s_law : Stmt := top 30
theorem sc_law : FnScope ["script", "book", "deed", "due", "calls", "found", "told"] ["script"] (defScope s_law) := ⟨rfl, rfl, rfl, by decide +kernel, rfl, by decide +kernel, by decide +kernel⟩
theorem nc_law_0 : ((["script", "book", "deed", "due", "calls", "found", "told"] : List Str) ++ (["row"] : List Str)).Nodup := by decide +kernel
noncomputable def m_law : FS := sSeq (sSet 1 1 (fFn 1 FF_made_book (fCons (fFn 1 FF_Ldrawn_book (fCons (fVar 0) (fNil))) (fNil)))) (sSeq (sFor 1 (fiSeq (fVar 1)) (gName' 1 2) (sSeq (sSet 1 3 (fFn 1 FF_Lread_through (fCons (f2 gIx (fVar 2) (fC (.int 2))) (fNil)))) (sSeq (sSet 1 4 (fComp (fiSeq (fVar 3)) (fT (f2 gEq (f2 gIx (fVar 7) (fC (.int 0))) (fC (.str "call")))) (fTupF 1 (fCons (f2 gIx (fVar 7) (fC (.int 4))) (fCons (f2 gIx (fVar 7) (fC (.int 2))) (fNil)))))) (sSeq (sSet 1 5 (fFn 1 FF_rows_of (fCons (fVar 2) (fNil)))) (sSeq (sSet 1 6 (fFn 1 FF_calls_of (fCons (fVar 2) (fNil)))) (sSeq (sIf (fOr (fNot (fT (fIsi "list" (fVar 5)))) (fOr (fT (f2 gNe (fVar 5) (fVar 3))) (fOr (fNot (fT (fIsi "list" (fVar 6)))) (fT (f2 gNe (fVar 6) (fVar 4)))))) (sRet 1 (fC (.bl false))) (sNext)) (sSeq (sExpr (fLm gAppend (fVar 5) (fCons (fTupF 1 (fCons (fC (.str "say")) (fCons (fTupF 1 (fCons (fC (.str "number")) (fCons (fC (.int 0)) (fNil)))) (fNil)))) (fNil)))) (sSeq (sExpr (fLm gReverse (fVar 6) fNil)) (sSeq (sExpr (fLm gAppend (fVar 6) (fCons (fC .non) (fNil)))) (sIf (fOr (fT (f2 gNe (fFn 1 FF_rows_of (fCons (fVar 2) (fNil))) (fVar 3))) (fT (f2 gNe (fFn 1 FF_calls_of (fCons (fVar 2) (fNil))) (fVar 4)))) (sRet 1 (fC (.bl false))) (sNext))))))))))) (sRet 1 (fC (.bl true))))
noncomputable def FF_law : FF := runBody 7 m_law
instance : KpF FF_law := inferInstanceAs (KpF (runBody _ _))
set_option maxHeartbeats 2000000 in
theorem ok_law (T : Txt K mg) {f_law : Addr} {fd_law : FuncData} (C_law : Ce K mg "law" s_law f_law fd_law ["script"]) {f_Ldrawn_book : Addr} {fd_Ldrawn_book : FuncData} (C_Ldrawn_book : Ce K mg "_law_drawn_book" s_Ldrawn_book f_Ldrawn_book fd_Ldrawn_book ["script"]) (G_Ldrawn_book : FnD Pg w K mg base 19 f_Ldrawn_book fd_Ldrawn_book ["script"] FF_Ldrawn_book) {f_made_book : Addr} {fd_made_book : FuncData} (C_made_book : Ce K mg "made_book" s_made_book f_made_book fd_made_book ["deeds"]) (G_made_book : FnD Pg w K mg base 11 f_made_book fd_made_book ["deeds"] FF_made_book) {f_Lread_through : Addr} {fd_Lread_through : FuncData} (C_Lread_through : Ce K mg "_law_read_through" s_Lread_through f_Lread_through fd_Lread_through ["rows"]) (G_Lread_through : FnD Pg w K mg base 1 f_Lread_through fd_Lread_through ["rows"] FF_Lread_through) {f_rows_of : Addr} {fd_rows_of : FuncData} (C_rows_of : Ce K mg "rows_of" s_rows_of f_rows_of fd_rows_of ["deed"]) (G_rows_of : FnD Pg w K mg base 8 f_rows_of fd_rows_of ["deed"] FF_rows_of) {f_calls_of : Addr} {fd_calls_of : FuncData} (C_calls_of : Ce K mg "calls_of" s_calls_of f_calls_of fd_calls_of ["deed"]) (G_calls_of : FnD Pg w K mg base 10 f_calls_of fd_calls_of ["deed"] FF_calls_of) : FnD Pg w K mg base 20 f_law fd_law ["script"] FF_law := by
  have z := fun hb => fn_data (Pg := Pg) (w := w) (mg := mg) (base := base) (k := 19) (m := m_law) C_law.fn sc_law hb
  refine z (fun cdv A outer s H E hr => ?_)
  have hu := hr.units
  have hr_Ldrawn_book : Room 19 _ := hr.mono (by omega)
  have hr_made_book : Room 11 _ := hr.mono (by omega)
  have hr_Lread_through : Room 1 _ := hr.mono (by omega)
  have hr_rows_of : Room 8 _ := hr.mono (by omega)
  have hr_calls_of : Room 10 _ := hr.mono (by omega)
  unfold m_law
  refine ds_cons ?_ ?_
  · refine @ds_set _ _ _ _ _ 1 _ _ sc_law.nd rfl (Or.inl rfl) ?_ inferInstance rfl (.inl rfl)
    refine de_call G_made_book hr_made_book C_made_book.mg C_made_book.fn.kp C_made_book.bd ?_
    refine da_cons ?_ da_nil
    refine de_call G_Ldrawn_book hr_Ldrawn_book C_Ldrawn_book.mg C_Ldrawn_book.fn.kp C_Ldrawn_book.bd ?_
    exact da_cons (dv 0) da_nil
  refine ds_cons ?_ ?_
  · refine ds_for PassesOwn.never rfl ?_ ?_ ?_
    · exact di_seq (dv 1)
    · exact dg_name (i := 2) sc_law.nd
    · refine ds_cons ?_ ?_
      · refine @ds_set _ _ _ _ _ 3 _ _ sc_law.nd rfl (Or.inl rfl) ?_ inferInstance rfl (.inl rfl)
        refine de_call G_Lread_through hr_Lread_through C_Lread_through.mg C_Lread_through.fn.kp C_Lread_through.bd ?_
        refine da_cons ?_ da_nil
        exact de_ix o_ix (dv 2) de_int
      refine ds_cons ?_ ?_
      · refine ds_setC (i := 4) sc_law.nd rfl rfl (fun _ _ h => h) rfl (blk_of (M := ["script", "book", "deed", "due", "calls", "found", "told"]) rfl) nc_law_0 ?_ (fun cl C s0 H0 fp => ?_) (fun cl C s0 H0 fp => ?_)
        · exact di_seq (dv 3)
        · refine df_one ?_
          refine dt_cmp (o_eq hu) gEqN_bl ?_ de_str
          exact de_ix o_ix (dv 7) de_int
        · refine de_tupF ?_
          refine da_cons ?_ ?_
          · exact de_ix o_ix (dv 7) de_int
          · refine da_cons ?_ da_nil
            exact de_ix o_ix (dv 7) de_int
      refine ds_cons ?_ ?_
      · refine @ds_set _ _ _ _ _ 5 _ _ sc_law.nd rfl (Or.inl rfl) ?_ inferInstance rfl (.inl rfl)
        refine de_call G_rows_of hr_rows_of C_rows_of.mg C_rows_of.fn.kp C_rows_of.bd ?_
        exact da_cons (dv 2) da_nil
      refine ds_cons ?_ ?_
      · refine @ds_set _ _ _ _ _ 6 _ _ sc_law.nd rfl (Or.inl rfl) ?_ inferInstance rfl (.inl rfl)
        refine de_call G_calls_of hr_calls_of C_calls_of.mg C_calls_of.fn.kp C_calls_of.bd ?_
        exact da_cons (dv 2) da_nil
      refine ds_cons ?_ ?_
      · refine ds_if ?_ ?_ ds_nil
        · refine DW.dt ?_
          refine dw_or ?_ ?_
          · refine dt_not ?_
            refine dt_truth ?_
            exact de_isi (T := "list") rfl T.b_isinstance rfl T.b_list bt_list (by decide) (dv 5)
          · refine dw_or ?_ ?_
            · exact dt_cmp (o_ne hu) gEqN_bl (dv 5) (dv 3)
            · refine dw_or ?_ ?_
              · refine dt_not ?_
                refine dt_truth ?_
                exact de_isi (T := "list") rfl T.b_isinstance rfl T.b_list bt_list (by decide) (dv 6)
              · refine dw_or1 ?_
                exact dt_cmp (o_ne hu) gEqN_bl (dv 6) (dv 4)
        · refine ds_one ?_
          exact ds_ret de_bl
      refine ds_cons ?_ ?_
      · refine ds_expr ?_
        refine de_lm PySem.F.slot_list_append PySem.F.type_list_append m_append (dv 5) ?_
        refine da_cons ?_ da_nil
        refine de_tupF ?_
        refine da_cons de_str ?_
        refine da_cons ?_ da_nil
        refine de_tupF ?_
        refine da_cons de_str ?_
        exact da_cons de_int da_nil
      refine ds_cons ?_ ?_
      · refine ds_expr ?_
        exact de_lm0 PySem.F.slot_list_reverse PySem.F.type_list_reverse m_reverse (dv 6)
      refine ds_cons ?_ ?_
      · refine ds_expr ?_
        refine de_lm PySem.F.slot_list_append PySem.F.type_list_append m_append (dv 6) ?_
        exact da_cons de_non da_nil
      refine ds_one ?_
      refine ds_if ?_ ?_ ds_nil
      · refine DW.dt ?_
        refine dw_or ?_ ?_
        · refine dt_cmp (o_ne hu) gEqN_bl ?_ (dv 3)
          refine de_call G_rows_of hr_rows_of C_rows_of.mg C_rows_of.fn.kp C_rows_of.bd ?_
          exact da_cons (dv 2) da_nil
        · refine dw_or1 ?_
          refine dt_cmp (o_ne hu) gEqN_bl ?_ (dv 4)
          refine de_call G_calls_of hr_calls_of C_calls_of.mg C_calls_of.fn.kp C_calls_of.bd ?_
          exact da_cons (dv 2) da_nil
      · refine ds_one ?_
        exact ds_ret de_bl
  refine ds_one ?_
  exact ds_ret de_bl
theorem all_mk {l : PySem.W.OpenLaw} {w : World} {K : PySem.W.Frag} {h : Heap} {mg : Str → Option Value} {fa f1 f2 f3 f4 f5 f6 f7 f8 f9 f10 f11 f12 f13 f14 f15 f16 f17 f18 f19 f20 f21 f22 f23 f24 : Addr} (X : K.In h) (G : h.Ns mainGlobals mg) (hfa : mg "law" = some (.ref fa))
    {od1 an1 od2 an2 od3 an3 od4 an4 od5 an5 od6 an6 od7 an7 od8 an8 od9 an9 od10 an10 od11 an11 od12 an12 od13 an13 od14 an14 od15 an15 od16 an16 od17 an17 od18 an18 od19 an19 od20 an20 od21 an21 od22 an22 od23 an23 od24 an24 : Option Addr} {sl1 sl2 sl3 sl4 sl5 sl6 sl7 sl8 sl9 sl10 sl11 sl12 sl13 sl14 sl15 sl16 sl17 sl18 sl19 sl20 sl21 sl22 sl23 sl24 : Array (Option Value)} {oc1 kV1 dc1 pm1 cd1 ct1 oc2 kV2 dc2 pm2 cd2 ct2 oc3 kV3 dc3 pm3 cd3 ct3 oc4 kV4 dc4 pm4 cd4 ct4 oc5 kV5 dc5 pm5 cd5 ct5 oc6 kV6 dc6 pm6 cd6 ct6 oc7 kV7 dc7 pm7 cd7 ct7 oc8 kV8 dc8 pm8 cd8 ct8 oc9 kV9 dc9 pm9 cd9 ct9 oc10 kV10 dc10 pm10 cd10 ct10 oc11 kV11 dc11 pm11 cd11 ct11 oc12 kV12 dc12 pm12 cd12 ct12 oc13 kV13 dc13 pm13 cd13 ct13 oc14 kV14 dc14 pm14 cd14 ct14 oc15 kV15 dc15 pm15 cd15 ct15 oc16 kV16 dc16 pm16 cd16 ct16 oc17 kV17 dc17 pm17 cd17 ct17 oc18 kV18 dc18 pm18 cd18 ct18 oc19 kV19 dc19 pm19 cd19 ct19 oc20 kV20 dc20 pm20 cd20 ct20 oc21 kV21 dc21 pm21 cd21 ct21 oc22 kV22 dc22 pm22 cd22 ct22 oc23 kV23 dc23 pm23 cd23 ct23 oc24 kV24 dc24 pm24 cd24 ct24 : Value}
    (a1 : PySem.W.nsIn K mainGlobals "refuse_like_names" = some (some (.ref f1))) (l1 : K.lookup f1 = some ⟨oc1, od1, .func (PySem.W.fnOf "refuse_like_names" "refuse_like_names" (defArgs s_refuse_like_names) (defBody s_refuse_like_names) (defScope s_refuse_like_names) .none kV1 dc1 pm1 an1 cd1 ct1), sl1⟩) (c1 : PySem.W.codeIn K cd1 "refuse_like_names" = true) (k1 : PySem.W.keepIn K (.ref f1) = true)
    (a2 : PySem.W.nsIn K mainGlobals "inner_parts" = some (some (.ref f2))) (l2 : K.lookup f2 = some ⟨oc2, od2, .func (PySem.W.fnOf "inner_parts" "inner_parts" (defArgs s_inner_parts) (defBody s_inner_parts) (defScope s_inner_parts) .none kV2 dc2 pm2 an2 cd2 ct2), sl2⟩) (c2 : PySem.W.codeIn K cd2 "inner_parts" = true) (k2 : PySem.W.keepIn K (.ref f2) = true)
    (a3 : PySem.W.nsIn K mainGlobals "rows_and_inner" = some (some (.ref f3))) (l3 : K.lookup f3 = some ⟨oc3, od3, .func (PySem.W.fnOf "rows_and_inner" "rows_and_inner" (defArgs s_rows_and_inner) (defBody s_rows_and_inner) (defScope s_rows_and_inner) .none kV3 dc3 pm3 an3 cd3 ct3), sl3⟩) (c3 : PySem.W.codeIn K cd3 "rows_and_inner" = true) (k3 : PySem.W.keepIn K (.ref f3) = true)
    (a4 : PySem.W.nsIn K mainGlobals "rows_of" = some (some (.ref f4))) (l4 : K.lookup f4 = some ⟨oc4, od4, .func (PySem.W.fnOf "rows_of" "rows_of" (defArgs s_rows_of) (defBody s_rows_of) (defScope s_rows_of) .none kV4 dc4 pm4 an4 cd4 ct4), sl4⟩) (c4 : PySem.W.codeIn K cd4 "rows_of" = true) (k4 : PySem.W.keepIn K (.ref f4) = true)
    (a5 : PySem.W.nsIn K mainGlobals "call_rows" = some (some (.ref f5))) (l5 : K.lookup f5 = some ⟨oc5, od5, .func (PySem.W.fnOf "call_rows" "call_rows" (defArgs s_call_rows) (defBody s_call_rows) (defScope s_call_rows) .none kV5 dc5 pm5 an5 cd5 ct5), sl5⟩) (c5 : PySem.W.codeIn K cd5 "call_rows" = true) (k5 : PySem.W.keepIn K (.ref f5) = true)
    (a6 : PySem.W.nsIn K mainGlobals "refuse_wrong_call" = some (some (.ref f6))) (l6 : K.lookup f6 = some ⟨oc6, od6, .func (PySem.W.fnOf "refuse_wrong_call" "refuse_wrong_call" (defArgs s_refuse_wrong_call) (defBody s_refuse_wrong_call) (defScope s_refuse_wrong_call) .none kV6 dc6 pm6 an6 cd6 ct6), sl6⟩) (c6 : PySem.W.codeIn K cd6 "refuse_wrong_call" = true) (k6 : PySem.W.keepIn K (.ref f6) = true)
    (a7 : PySem.W.nsIn K mainGlobals "refuse_wrong_calls" = some (some (.ref f7))) (l7 : K.lookup f7 = some ⟨oc7, od7, .func (PySem.W.fnOf "refuse_wrong_calls" "refuse_wrong_calls" (defArgs s_refuse_wrong_calls) (defBody s_refuse_wrong_calls) (defScope s_refuse_wrong_calls) .none kV7 dc7 pm7 an7 cd7 ct7), sl7⟩) (c7 : PySem.W.codeIn K cd7 "refuse_wrong_calls" = true) (k7 : PySem.W.keepIn K (.ref f7) = true)
    (a8 : PySem.W.nsIn K mainGlobals "made_book" = some (some (.ref f8))) (l8 : K.lookup f8 = some ⟨oc8, od8, .func (PySem.W.fnOf "made_book" "made_book" (defArgs s_made_book) (defBody s_made_book) (defScope s_made_book) .none kV8 dc8 pm8 an8 cd8 ct8), sl8⟩) (c8 : PySem.W.codeIn K cd8 "made_book" = true) (k8 : PySem.W.keepIn K (.ref f8) = true)
    (a9 : PySem.W.nsIn K mainGlobals "calls_of" = some (some (.ref f9))) (l9 : K.lookup f9 = some ⟨oc9, od9, .func (PySem.W.fnOf "calls_of" "calls_of" (defArgs s_calls_of) (defBody s_calls_of) (defScope s_calls_of) .none kV9 dc9 pm9 an9 cd9 ct9), sl9⟩) (c9 : PySem.W.codeIn K cd9 "calls_of" = true) (k9 : PySem.W.keepIn K (.ref f9) = true)
    (a10 : PySem.W.nsIn K mainGlobals "_law_pot" = some (some (.ref f10))) (l10 : K.lookup f10 = some ⟨oc10, od10, .func (PySem.W.fnOf "_law_pot" "_law_pot" (defArgs s_Lpot) (defBody s_Lpot) (defScope s_Lpot) .none kV10 dc10 pm10 an10 cd10 ct10), sl10⟩) (c10 : PySem.W.codeIn K cd10 "_law_pot" = true) (k10 : PySem.W.keepIn K (.ref f10) = true)
    (a11 : PySem.W.nsIn K mainGlobals "_law_take" = some (some (.ref f11))) (l11 : K.lookup f11 = some ⟨oc11, od11, .func (PySem.W.fnOf "_law_take" "_law_take" (defArgs s_Ltake) (defBody s_Ltake) (defScope s_Ltake) .none kV11 dc11 pm11 an11 cd11 ct11), sl11⟩) (c11 : PySem.W.codeIn K cd11 "_law_take" = true) (k11 : PySem.W.keepIn K (.ref f11) = true)
    (a12 : PySem.W.nsIn K mainGlobals "_law_folded" = some (some (.ref f12))) (l12 : K.lookup f12 = some ⟨oc12, od12, .func (PySem.W.fnOf "_law_folded" "_law_folded" (defArgs s_Lfolded) (defBody s_Lfolded) (defScope s_Lfolded) .none kV12 dc12 pm12 an12 cd12 ct12), sl12⟩) (c12 : PySem.W.codeIn K cd12 "_law_folded" = true) (k12 : PySem.W.keepIn K (.ref f12) = true)
    (a13 : PySem.W.nsIn K mainGlobals "_law_value" = some (some (.ref f13))) (l13 : K.lookup f13 = some ⟨oc13, od13, .func (PySem.W.fnOf "_law_value" "_law_value" (defArgs s_Lvalue) (defBody s_Lvalue) (defScope s_Lvalue) .none kV13 dc13 pm13 an13 cd13 ct13), sl13⟩) (c13 : PySem.W.codeIn K cd13 "_law_value" = true) (k13 : PySem.W.keepIn K (.ref f13) = true)
    (a14 : PySem.W.nsIn K mainGlobals "_law_drawn" = some (some (.ref f14))) (l14 : K.lookup f14 = some ⟨oc14, od14, .func (PySem.W.fnOf "_law_drawn" "_law_drawn" (defArgs s_Ldrawn) (defBody s_Ldrawn) (defScope s_Ldrawn) .none kV14 dc14 pm14 an14 cd14 ct14), sl14⟩) (c14 : PySem.W.codeIn K cd14 "_law_drawn" = true) (k14 : PySem.W.keepIn K (.ref f14) = true)
    (a15 : PySem.W.nsIn K mainGlobals "_law_names" = some (some (.ref f15))) (l15 : K.lookup f15 = some ⟨oc15, od15, .func (PySem.W.fnOf "_law_names" "_law_names" (defArgs s_Lnames) (defBody s_Lnames) (defScope s_Lnames) .none kV15 dc15 pm15 an15 cd15 ct15), sl15⟩) (c15 : PySem.W.codeIn K cd15 "_law_names" = true) (k15 : PySem.W.keepIn K (.ref f15) = true)
    (a16 : PySem.W.nsIn K mainGlobals "_law_deed_words" = some (some (.ref f16))) (l16 : K.lookup f16 = some ⟨oc16, od16, .func (PySem.W.fnOf "_law_deed_words" "_law_deed_words" (defArgs s_Ldeed_words) (defBody s_Ldeed_words) (defScope s_Ldeed_words) .none kV16 dc16 pm16 an16 cd16 ct16), sl16⟩) (c16 : PySem.W.codeIn K cd16 "_law_deed_words" = true) (k16 : PySem.W.keepIn K (.ref f16) = true)
    (a17 : PySem.W.nsIn K mainGlobals "_law_heads" = some (some (.ref f17))) (l17 : K.lookup f17 = some ⟨oc17, od17, .func (PySem.W.fnOf "_law_heads" "_law_heads" (defArgs s_Lheads) (defBody s_Lheads) (defScope s_Lheads) .none kV17 dc17 pm17 an17 cd17 ct17), sl17⟩) (c17 : PySem.W.codeIn K cd17 "_law_heads" = true) (k17 : PySem.W.keepIn K (.ref f17) = true)
    (a18 : PySem.W.nsIn K mainGlobals "_law_call" = some (some (.ref f18))) (l18 : K.lookup f18 = some ⟨oc18, od18, .func (PySem.W.fnOf "_law_call" "_law_call" (defArgs s_Lcall) (defBody s_Lcall) (defScope s_Lcall) .none kV18 dc18 pm18 an18 cd18 ct18), sl18⟩) (c18 : PySem.W.codeIn K cd18 "_law_call" = true) (k18 : PySem.W.keepIn K (.ref f18) = true)
    (a19 : PySem.W.nsIn K mainGlobals "_law_row" = some (some (.ref f19))) (l19 : K.lookup f19 = some ⟨oc19, od19, .func (PySem.W.fnOf "_law_row" "_law_row" (defArgs s_Lrow) (defBody s_Lrow) (defScope s_Lrow) .none kV19 dc19 pm19 an19 cd19 ct19), sl19⟩) (c19 : PySem.W.codeIn K cd19 "_law_row" = true) (k19 : PySem.W.keepIn K (.ref f19) = true)
    (a20 : PySem.W.nsIn K mainGlobals "_law_rows" = some (some (.ref f20))) (l20 : K.lookup f20 = some ⟨oc20, od20, .func (PySem.W.fnOf "_law_rows" "_law_rows" (defArgs s_Lrows) (defBody s_Lrows) (defScope s_Lrows) .none kV20 dc20 pm20 an20 cd20 ct20), sl20⟩) (c20 : PySem.W.codeIn K cd20 "_law_rows" = true) (k20 : PySem.W.keepIn K (.ref f20) = true)
    (a21 : PySem.W.nsIn K mainGlobals "_law_book" = some (some (.ref f21))) (l21 : K.lookup f21 = some ⟨oc21, od21, .func (PySem.W.fnOf "_law_book" "_law_book" (defArgs s_Lbook) (defBody s_Lbook) (defScope s_Lbook) .none kV21 dc21 pm21 an21 cd21 ct21), sl21⟩) (c21 : PySem.W.codeIn K cd21 "_law_book" = true) (k21 : PySem.W.keepIn K (.ref f21) = true)
    (a22 : PySem.W.nsIn K mainGlobals "_law_drawn_book" = some (some (.ref f22))) (l22 : K.lookup f22 = some ⟨oc22, od22, .func (PySem.W.fnOf "_law_drawn_book" "_law_drawn_book" (defArgs s_Ldrawn_book) (defBody s_Ldrawn_book) (defScope s_Ldrawn_book) .none kV22 dc22 pm22 an22 cd22 ct22), sl22⟩) (c22 : PySem.W.codeIn K cd22 "_law_drawn_book" = true) (k22 : PySem.W.keepIn K (.ref f22) = true)
    (a23 : PySem.W.nsIn K mainGlobals "_law_read_through" = some (some (.ref f23))) (l23 : K.lookup f23 = some ⟨oc23, od23, .func (PySem.W.fnOf "_law_read_through" "_law_read_through" (defArgs s_Lread_through) (defBody s_Lread_through) (defScope s_Lread_through) .none kV23 dc23 pm23 an23 cd23 ct23), sl23⟩) (c23 : PySem.W.codeIn K cd23 "_law_read_through" = true) (k23 : PySem.W.keepIn K (.ref f23) = true)
    (a24 : PySem.W.nsIn K mainGlobals "law" = some (some (.ref f24))) (l24 : K.lookup f24 = some ⟨oc24, od24, .func (PySem.W.fnOf "law" "law" (defArgs s_law) (defBody s_law) (defScope s_law) .none kV24 dc24 pm24 an24 cd24 ct24), sl24⟩) (c24 : PySem.W.codeIn K cd24 "law" = true) (k24 : PySem.W.keepIn K (.ref f24) = true)
    (z0 : PySem.W.nsIn K mainGlobals "enumerate" = some none) (z1 : PySem.W.nsIn K mainGlobals "int" = some none) (z2 : PySem.W.nsIn K mainGlobals "isinstance" = some none) (z3 : PySem.W.nsIn K mainGlobals "len" = some none) (z4 : PySem.W.nsIn K mainGlobals "list" = some none) (z5 : PySem.W.nsIn K mainGlobals "min" = some none) (z6 : PySem.W.nsIn K mainGlobals "range" = some none) (z7 : PySem.W.nsIn K mainGlobals "set" = some none) (z8 : PySem.W.nsIn K mainGlobals "tuple" = some none)
      :
    ∃ fd : FuncData, (∀ (s : Shared) (v : Value), BindsTo s fd ⟨[v], []⟩ [("script", v)]) ∧ ∀ base : Heap, K.In base → base.Ns mainGlobals mg → FnD l.prog w K mg base 20 fa fd ["script"] FF_law := by
  have e := hfa.symm.trans (PySem.W.mg_of X G a24)
  cases e
  have T : Txt K mg := ⟨PySem.W.mg_none_of X G z0, PySem.W.mg_none_of X G z1, PySem.W.mg_none_of X G z2, PySem.W.mg_none_of X G z3, PySem.W.mg_none_of X G z4, PySem.W.mg_none_of X G z5, PySem.W.mg_none_of X G z6, PySem.W.mg_none_of X G z7, PySem.W.mg_none_of X G z8⟩
  have C_refuse_like_names : Ce K mg "refuse_like_names" s_refuse_like_names _ _ ["book"] := ⟨fun_mk (st := s_refuse_like_names) l1 c1 k1, PySem.W.mg_of X G a1, (fun_mk (st := s_refuse_like_names) l1 c1 k1).binds (ps := ["book"]) fun _ _ _ _ _ _ us hl => len1 us hl fun _ => rfl⟩
  have C_inner_parts : Ce K mg "inner_parts" s_inner_parts _ _ ["row"] := ⟨fun_mk (st := s_inner_parts) l2 c2 k2, PySem.W.mg_of X G a2, (fun_mk (st := s_inner_parts) l2 c2 k2).binds (ps := ["row"]) fun _ _ _ _ _ _ us hl => len1 us hl fun _ => rfl⟩
  have C_rows_and_inner : Ce K mg "rows_and_inner" s_rows_and_inner _ _ ["rows"] := ⟨fun_mk (st := s_rows_and_inner) l3 c3 k3, PySem.W.mg_of X G a3, (fun_mk (st := s_rows_and_inner) l3 c3 k3).binds (ps := ["rows"]) fun _ _ _ _ _ _ us hl => len1 us hl fun _ => rfl⟩
  have C_rows_of : Ce K mg "rows_of" s_rows_of _ _ ["deed"] := ⟨fun_mk (st := s_rows_of) l4 c4 k4, PySem.W.mg_of X G a4, (fun_mk (st := s_rows_of) l4 c4 k4).binds (ps := ["deed"]) fun _ _ _ _ _ _ us hl => len1 us hl fun _ => rfl⟩
  have C_call_rows : Ce K mg "call_rows" s_call_rows _ _ ["deed"] := ⟨fun_mk (st := s_call_rows) l5 c5 k5, PySem.W.mg_of X G a5, (fun_mk (st := s_call_rows) l5 c5 k5).binds (ps := ["deed"]) fun _ _ _ _ _ _ us hl => len1 us hl fun _ => rfl⟩
  have C_refuse_wrong_call : Ce K mg "refuse_wrong_call" s_refuse_wrong_call _ _ ["call", "param_counts", "marks_ahead"] := ⟨fun_mk (st := s_refuse_wrong_call) l6 c6 k6, PySem.W.mg_of X G a6, (fun_mk (st := s_refuse_wrong_call) l6 c6 k6).binds (ps := ["call", "param_counts", "marks_ahead"]) fun _ _ _ _ _ _ us hl => len3 us hl fun _ _ _ => rfl⟩
  have C_refuse_wrong_calls : Ce K mg "refuse_wrong_calls" s_refuse_wrong_calls _ _ ["book"] := ⟨fun_mk (st := s_refuse_wrong_calls) l7 c7 k7, PySem.W.mg_of X G a7, (fun_mk (st := s_refuse_wrong_calls) l7 c7 k7).binds (ps := ["book"]) fun _ _ _ _ _ _ us hl => len1 us hl fun _ => rfl⟩
  have C_made_book : Ce K mg "made_book" s_made_book _ _ ["deeds"] := ⟨fun_mk (st := s_made_book) l8 c8 k8, PySem.W.mg_of X G a8, (fun_mk (st := s_made_book) l8 c8 k8).binds (ps := ["deeds"]) fun _ _ _ _ _ _ us hl => len1 us hl fun _ => rfl⟩
  have C_calls_of : Ce K mg "calls_of" s_calls_of _ _ ["deed"] := ⟨fun_mk (st := s_calls_of) l9 c9 k9, PySem.W.mg_of X G a9, (fun_mk (st := s_calls_of) l9 c9 k9).binds (ps := ["deed"]) fun _ _ _ _ _ _ us hl => len1 us hl fun _ => rfl⟩
  have C_Lpot : Ce K mg "_law_pot" s_Lpot _ _ ["cell", "k"] := ⟨fun_mk (st := s_Lpot) l10 c10 k10, PySem.W.mg_of X G a10, (fun_mk (st := s_Lpot) l10 c10 k10).binds (ps := ["cell", "k"]) fun _ _ _ _ _ _ us hl => len2 us hl fun _ _ => rfl⟩
  have C_Ltake : Ce K mg "_law_take" s_Ltake _ _ ["pot", "many"] := ⟨fun_mk (st := s_Ltake) l11 c11 k11, PySem.W.mg_of X G a11, (fun_mk (st := s_Ltake) l11 c11 k11).binds (ps := ["pot", "many"]) fun _ _ _ _ _ _ us hl => len2 us hl fun _ _ => rfl⟩
  have C_Lfolded : Ce K mg "_law_folded" s_Lfolded _ _ ["script", "many"] := ⟨fun_mk (st := s_Lfolded) l12 c12 k12, PySem.W.mg_of X G a12, (fun_mk (st := s_Lfolded) l12 c12 k12).binds (ps := ["script", "many"]) fun _ _ _ _ _ _ us hl => len2 us hl fun _ _ => rfl⟩
  have C_Lvalue : Ce K mg "_law_value" s_Lvalue _ _ ["pot"] := ⟨fun_mk (st := s_Lvalue) l13 c13 k13, PySem.W.mg_of X G a13, (fun_mk (st := s_Lvalue) l13 c13 k13).binds (ps := ["pot"]) fun _ _ _ _ _ _ us hl => len1 us hl fun _ => rfl⟩
  have C_Ldrawn : Ce K mg "_law_drawn" s_Ldrawn _ _ ["pot", "names", "deep"] := ⟨fun_mk (st := s_Ldrawn) l14 c14 k14, PySem.W.mg_of X G a14, (fun_mk (st := s_Ldrawn) l14 c14 k14).binds (ps := ["pot", "names", "deep"]) fun _ _ _ _ _ _ us hl => len3 us hl fun _ _ _ => rfl⟩
  have C_Lnames : Ce K mg "_law_names" s_Lnames _ _ ["pot", "many"] := ⟨fun_mk (st := s_Lnames) l15 c15 k15, PySem.W.mg_of X G a15, (fun_mk (st := s_Lnames) l15 c15 k15).binds (ps := ["pot", "many"]) fun _ _ _ _ _ _ us hl => len2 us hl fun _ _ => rfl⟩
  have C_Ldeed_words : Ce K mg "_law_deed_words" s_Ldeed_words _ _ ["pot", "many"] := ⟨fun_mk (st := s_Ldeed_words) l16 c16 k16, PySem.W.mg_of X G a16, (fun_mk (st := s_Ldeed_words) l16 c16 k16).binds (ps := ["pot", "many"]) fun _ _ _ _ _ _ us hl => len2 us hl fun _ _ => rfl⟩
  have C_Lheads : Ce K mg "_law_heads" s_Lheads _ _ ["pot", "names", "many"] := ⟨fun_mk (st := s_Lheads) l17 c17 k17, PySem.W.mg_of X G a17, (fun_mk (st := s_Lheads) l17 c17 k17).binds (ps := ["pot", "names", "many"]) fun _ _ _ _ _ _ us hl => len3 us hl fun _ _ _ => rfl⟩
  have C_Lcall : Ce K mg "_law_call" s_Lcall _ _ ["pot", "names", "state"] := ⟨fun_mk (st := s_Lcall) l18 c18 k18, PySem.W.mg_of X G a18, (fun_mk (st := s_Lcall) l18 c18 k18).binds (ps := ["pot", "names", "state"]) fun _ _ _ _ _ _ us hl => len3 us hl fun _ _ _ => rfl⟩
  have C_Lrow : Ce K mg "_law_row" s_Lrow _ _ ["pot", "names", "state", "deep"] := ⟨fun_mk (st := s_Lrow) l19 c19 k19, PySem.W.mg_of X G a19, (fun_mk (st := s_Lrow) l19 c19 k19).binds (ps := ["pot", "names", "state", "deep"]) fun _ _ _ _ _ _ us hl => len4 us hl fun _ _ _ _ => rfl⟩
  have C_Lrows : Ce K mg "_law_rows" s_Lrows _ _ ["pot", "names", "state", "deep"] := ⟨fun_mk (st := s_Lrows) l20 c20 k20, PySem.W.mg_of X G a20, (fun_mk (st := s_Lrows) l20 c20 k20).binds (ps := ["pot", "names", "state", "deep"]) fun _ _ _ _ _ _ us hl => len4 us hl fun _ _ _ _ => rfl⟩
  have C_Lbook : Ce K mg "_law_book" s_Lbook _ _ ["cells", "most"] := ⟨fun_mk (st := s_Lbook) l21 c21 k21, PySem.W.mg_of X G a21, (fun_mk (st := s_Lbook) l21 c21 k21).binds (ps := ["cells", "most"]) fun _ _ _ _ _ _ us hl => len2 us hl fun _ _ => rfl⟩
  have C_Ldrawn_book : Ce K mg "_law_drawn_book" s_Ldrawn_book _ _ ["script"] := ⟨fun_mk (st := s_Ldrawn_book) l22 c22 k22, PySem.W.mg_of X G a22, (fun_mk (st := s_Ldrawn_book) l22 c22 k22).binds (ps := ["script"]) fun _ _ _ _ _ _ us hl => len1 us hl fun _ => rfl⟩
  have C_Lread_through : Ce K mg "_law_read_through" s_Lread_through _ _ ["rows"] := ⟨fun_mk (st := s_Lread_through) l23 c23 k23, PySem.W.mg_of X G a23, (fun_mk (st := s_Lread_through) l23 c23 k23).binds (ps := ["rows"]) fun _ _ _ _ _ _ us hl => len1 us hl fun _ => rfl⟩
  have C_law : Ce K mg "law" s_law _ _ ["script"] := ⟨fun_mk (st := s_law) l24 c24 k24, PySem.W.mg_of X G a24, (fun_mk (st := s_law) l24 c24 k24).binds (ps := ["script"]) fun _ _ _ _ _ _ us hl => len1 us hl fun _ => rfl⟩
  refine ⟨PySem.W.fnOf "law" "law" (defArgs s_law) (defBody s_law) (defScope s_law) .none kV24 dc24 pm24 an24 cd24 ct24, fun s v => .of_eq rfl, fun base _ _ => ?_⟩
  have G_refuse_like_names := ok_refuse_like_names (Pg := l.prog) (w := w) (base := base) T C_refuse_like_names
  have G_inner_parts := ok_inner_parts (Pg := l.prog) (w := w) (base := base) T C_inner_parts
  have G_rows_and_inner := ok_rows_and_inner (Pg := l.prog) (w := w) (base := base) T C_rows_and_inner C_inner_parts G_inner_parts 6
  have G_rows_of := ok_rows_of (Pg := l.prog) (w := w) (base := base) T C_rows_of C_rows_and_inner G_rows_and_inner
  have G_call_rows := ok_call_rows (Pg := l.prog) (w := w) (base := base) T C_call_rows C_rows_of G_rows_of
  have G_refuse_wrong_call := ok_refuse_wrong_call (Pg := l.prog) (w := w) (base := base) T C_refuse_wrong_call
  have G_refuse_wrong_calls := ok_refuse_wrong_calls (Pg := l.prog) (w := w) (base := base) T C_refuse_wrong_calls C_call_rows G_call_rows C_refuse_wrong_call G_refuse_wrong_call
  have G_made_book := ok_made_book (Pg := l.prog) (w := w) (base := base) T C_made_book C_refuse_like_names G_refuse_like_names C_refuse_wrong_calls G_refuse_wrong_calls
  have G_calls_of := ok_calls_of (Pg := l.prog) (w := w) (base := base) T C_calls_of C_call_rows G_call_rows
  have G_Lpot := ok_Lpot (Pg := l.prog) (w := w) (base := base) T C_Lpot
  have G_Ltake := ok_Ltake (Pg := l.prog) (w := w) (base := base) T C_Ltake
  have G_Lfolded := ok_Lfolded (Pg := l.prog) (w := w) (base := base) T C_Lfolded
  have G_Lvalue := ok_Lvalue (Pg := l.prog) (w := w) (base := base) T C_Lvalue C_Ltake G_Ltake
  have G_Ldrawn := ok_Ldrawn (Pg := l.prog) (w := w) (base := base) T C_Ldrawn C_Ltake G_Ltake C_Lvalue G_Lvalue 6
  have G_Lnames := ok_Lnames (Pg := l.prog) (w := w) (base := base) T C_Lnames C_Ltake G_Ltake
  have G_Ldeed_words := ok_Ldeed_words (Pg := l.prog) (w := w) (base := base) T C_Ldeed_words C_Ltake G_Ltake
  have G_Lheads := ok_Lheads (Pg := l.prog) (w := w) (base := base) T C_Lheads C_Ldeed_words G_Ldeed_words C_Ltake G_Ltake
  have G_Lcall := ok_Lcall (Pg := l.prog) (w := w) (base := base) T C_Lcall C_Ltake G_Ltake C_Ldrawn G_Ldrawn
  obtain ⟨G_Lrow, G_Lrows⟩ := okg_Lrow (Pg := l.prog) (w := w) (base := base) T C_Lrow C_Lrows C_Ltake G_Ltake C_Lcall G_Lcall C_Ldrawn G_Ldrawn 8
  have G_Lbook := ok_Lbook (Pg := l.prog) (w := w) (base := base) T C_Lbook C_Lpot G_Lpot C_Ltake G_Ltake C_Lnames G_Lnames C_Lheads G_Lheads C_Lrows G_Lrows C_Ldrawn G_Ldrawn
  have G_Ldrawn_book := ok_Ldrawn_book (Pg := l.prog) (w := w) (base := base) T C_Ldrawn_book C_Lfolded G_Lfolded C_Lbook G_Lbook
  have G_Lread_through := ok_Lread_through (Pg := l.prog) (w := w) (base := base) T C_Lread_through
  exact ok_law T C_law C_Ldrawn_book G_Ldrawn_book C_made_book G_made_book C_Lread_through G_Lread_through C_rows_of G_rows_of C_calls_of G_calls_of
end K08
namespace K08
open PySem PySem.Spec L2 L2.CF LL LR LS
theorem e_pot : FF_Lpot = LL.pot := rfl
theorem e_names : FF_Lnames = LL.names := rfl
theorem e_drawn : ∀ n, FF_Ldrawn n = drawn n
  | 0 => rfl
  | n + 1 => by
    show runBody 5 (m_Ldrawn (FF_Ldrawn n)) = runBody 5 (m_drawn (drawn n))
    rw [e_drawn n]
    rfl
theorem take' {p : List D} {m : Int} (hp : Pot p) (h0 : 0 < m) (h1 : m < 1073741824) : ∃ r p', FF_Ltake [.L p, .p (.int m)] = some (.p (.int r), [.L p', .p (.int m)]) ∧ 0 ≤ r ∧ r < m ∧ Pot p' := take_ok hp h0 h1
theorem atN {α : Type} {l : List α} {k : Nat} (h : k < l.length) : atI l (k : Int) = l[k]? := by
  unfold atI ixN
  rw [if_pos (by omega), if_pos (by omega)]
  rfl
theorem int_at {cs : List Int} {r : Int} (r0 : 0 ≤ r) (r1 : r < cs.length) : ∃ c, atI (cs.map D.int) r = some (.int c) := by
  obtain ⟨k, rfl⟩ := Int.eq_ofNat_of_zero_le r0
  have hk : k < cs.length := by omega
  refine ⟨cs[k], ?_⟩
  rw [atN (by simpa using hk)]
  simp [hk]
noncomputable def cellB : FS := (sSetL (f2 gAdd (f2 gMulS (f2 gIx (fVar 2) (f2 gMod (fVar 3) (fVar 1))) (fC (.int 31))) (fVar 4)) (fVar 2) (f2 gMod (fVar 3) (fVar 1)))
theorem cells_run {s : Option RV} {m : Nat} (hm : 0 < m) : ∀ (es : List Int) (j : Nat) (cs : List Int) (y3 y4 : Option RV), cs.length = m →
    ∃ (os : List Int) (z3 z4 : Option RV), forD (gPair (gName' 2 3) (gName' 2 4)) cellB (enumD j (es.map D.int)) [s, some (.p (.int m)), some (.L (cs.map .int)), y3, y4] = some (.nx, [s, some (.p (.int m)), some (.L (os.map .int)), z3, z4]) ∧ os.length = m
  | [], j, cs, y3, y4, h => ⟨cs, y3, y4, rfl, h⟩
  | e :: es, j, cs, y3, y4, hl => by
    have b0 : 0 ≤ (j : Int) % m := Int.emod_nonneg _ (by omega)
    have b1 : (j : Int) % m < cs.length := by rw [hl]; exact Int.emod_lt_of_pos _ (by omega)
    obtain ⟨c, ec⟩ := int_at (cs := cs) b0 b1
    have ei : ixN cs.length ((j : Int) % m) = some ((j : Int) % m).toNat := by unfold ixN; rw [if_pos b0, if_pos b1]
    have km : mulOk c 31 = true := mul_small' (by decide) (by decide)
    obtain ⟨os, z3, z4, e1, l1⟩ := cells_run (s := s) hm es (j + 1) (cs.set ((j : Int) % m).toNat (c * 31 + e)) (some (.p (.int j))) (some (.p (.int e))) (by simp [hl])
    refine ⟨os, z3, z4, ?_, l1⟩
    rw [List.map_set] at e1
    simp only [cellB] at e1
    have hm' : (0 : Int) < (m : Int) := by omega
    simp [forD, enumD, cellB, ec, ei, km, hm', hm, e1]
theorem folded_ok {ns : List Int} : ∃ cs : List Int, FF_Lfolded [.p (.lst (ns.map D.int)), .p (.int 8)] = some (.L (cs.map .int), [.p (.lst (ns.map D.int)), .p (.int 8)]) ∧ cs.length = 8 := by
  have d1 : cutD (ns.map D.int) none (some 63) = (ns.take (min 63 ns.length)).map D.int := by
    simp [cutD, HT.sIx, List.map_take]
  obtain ⟨os, z3, z4, e1, l1⟩ := cells_run (s := some (.p (.lst (ns.map D.int)))) (m := 8) (by decide) (ns.take (min 63 ns.length)) 0 [0, 0, 0, 0, 0, 0, 0, 0] none none rfl
  refine ⟨os, ?_, l1⟩
  simp only [cellB, Int.cast_ofNat_Int, List.map_cons, List.map_nil] at e1
  have z8 : (8 : Nat) ≤ sizeLine := by decide
  have z1 : (1 : Nat) ≤ sizeLine := by decide
  have r8 : repD [D.int 0] 8 = [.int 0, .int 0, .int 0, .int 0, .int 0, .int 0, .int 0, .int 0] := rfl
  generalize (ns.take (min 63 ns.length)) = a1 at *
  simp [FF_Lfolded, m_Lfolded, gSl', gSl, itemsL, d1, sFor, fiEnum, z1, z8, r8, e1]
theorem letter_all : ∀ i : Fin 26, ("abcdefghijklmnopqrstuvwxyz" : Str).cps.toList[i.val]? = some (97 + i.val) := by decide +kernel
theorem letter_at {i : Int} (h0 : 0 ≤ i) (h1 : i < 26) : atI ("abcdefghijklmnopqrstuvwxyz" : Str).cps.toList i = some (97 + i.toNat) := by
  obtain ⟨k, rfl⟩ := Int.eq_ofNat_of_zero_le h0
  have hk : k < 26 := by omega
  rw [atN (by rw [letters_len]; exact hk)]
  exact letter_all ⟨k, hk⟩
theorem nodup_map {α β : Type} {f : α → β} {l : List α} (h : l.Nodup) (inj : ∀ a ∈ l, ∀ b ∈ l, f a = f b → a = b) : (l.map f).Nodup := by
  refine List.pairwise_map.mpr ?_
  refine List.Pairwise.imp_of_mem (R := fun a b => a ≠ b) (fun ha hb hn e => hn (inj _ ha _ hb e)) h
def wordA (c : Nat) (k : Nat) : Str := Txt.mul ⟨#[c]⟩ (1 + (k : Int))
theorem wordA_list {c k : Nat} : (wordA c k).cps.toList = List.replicate (k + 1) c := by
  unfold wordA
  rw [show (1 : Int) + (k : Int) = ((k + 1 : Nat) : Int) by omega]
  exact mul_len (by omega)
theorem wordA_ok {c k : Nat} (hc : c < 128) (hk : k < 8) : SOk (wordA c k) ∧ (wordA c k).length ≤ 8 := by
  refine ⟨?_, ?_⟩
  · rw [sok_mem, wordA_list]
    intro d hd
    rw [List.mem_replicate] at hd
    omega
  · have : (wordA c k).length = (wordA c k).cps.toList.length := by simp [Str.length]
    rw [this, wordA_list, List.length_replicate]
    omega
theorem wordA_inj {c k l : Nat} (h : wordA c k = wordA c l) : k = l := by
  have := congrArg (fun s : Str => s.cps.toList.length) h
  simp only [wordA_list, List.length_replicate] at this
  omega
theorem mulA {c k : Nat} (hk : k < 8) : mulLen ⟨#[c]⟩ (1 + (k : Int)) = true := by
  have hs := sizeLine_eq
  have l1 : (⟨#[c]⟩ : Str).length = 1 := rfl
  unfold mulLen
  rw [l1]
  exact decide_eq_true ⟨by omega, by omega, by omega, by omega⟩
def wordB (f : Int) (tail : Str) (k : Nat) : Str := ⟨#[97 + ((f + 5 * (k : Int)) % 26).toNat]⟩ ++ tail
theorem wordB_inj {f : Int} {tail : Str} {k l : Nat} (hk : k < 8) (hl : l < 8) (h : wordB f tail k = wordB f tail l) : k = l := by
  unfold wordB at h
  have h1 := congrArg (fun s : Str => s.cps.toList) h
  simp only [PySem.W.KT.app_list] at h1
  have h2 := List.append_cancel_right h1
  simp at h2
  have a0 : 0 ≤ (f + 5 * (k : Int)) % 26 := Int.emod_nonneg _ (by decide)
  have b0 : 0 ≤ (f + 5 * (l : Int)) % 26 := Int.emod_nonneg _ (by decide)
  omega
theorem wordB_ok {f : Int} {tail : Str} {k : Nat} (h1 : SOk tail) (h2 : tail.length ≤ 7) : SOk (wordB f tail k) ∧ (wordB f tail k).length ≤ 8 := by
  have a1 : (f + 5 * (k : Int)) % 26 < 26 := Int.emod_lt_of_pos _ (by decide)
  refine ⟨sok_app (sok_one (by omega)) h1, ?_⟩
  unfold wordB
  rw [Str.length_append]
  have : (⟨#[97 + ((f + 5 * (k : Int)) % 26).toNat]⟩ : Str).length = 1 := rfl
  omega
theorem compI {c : Nat} {f : Int} {x0 x1 x3 x4 : Option RV} (ec : atI ("abcdefghijklmnopqrstuvwxyz" : Str).cps.toList f = some c) : ∀ (is : List Int), (∀ i ∈ is, mulLen ⟨#[c]⟩ (1 + i) = true) →
    compD fYes (f2 gMulS (f2 gIx (fC (.str "abcdefghijklmnopqrstuvwxyz")) (fVar 2)) (f2 gAdd (fC (.int 1)) (fVar 5))) 5 (is.map D.int) [x0, x1, some (.p (.int f)), x3, x4] = some ((is.map fun i => Txt.mul ⟨#[c]⟩ (1 + i)).map D.str, [x0, x1, some (.p (.int f)), x3, x4])
  | [], _ => by simp
  | i :: is, h => by
    have ih := compI (x0 := x0) (x1 := x1) (x3 := x3) (x4 := x4) ec is fun i hi => h i (by simp [hi])
    have hm := h i (by simp)
    simp [letters_fit, ec, hm, ih]
theorem compA {c : Nat} {f : Int} {x0 x1 x3 x4 : Option RV} (ec : atI ("abcdefghijklmnopqrstuvwxyz" : Str).cps.toList f = some c) (js : List Nat) (h : ∀ j ∈ js, j < 8) :
    compD fYes (f2 gMulS (f2 gIx (fC (.str "abcdefghijklmnopqrstuvwxyz")) (fVar 2)) (f2 gAdd (fC (.int 1)) (fVar 5))) 5 (js.map fun (j : Nat) => D.int j) [x0, x1, some (.p (.int f)), x3, x4] = some ((js.map (wordA c)).map D.str, [x0, x1, some (.p (.int f)), x3, x4]) := by
  have z := compI (x0 := x0) (x1 := x1) (x3 := x3) (x4 := x4) ec (js.map fun (j : Nat) => (j : Int)) fun i hi => by
    obtain ⟨j, hj, rfl⟩ := List.mem_map.mp hi
    exact mulA (h j hj)
  have q : ((js.map fun (j : Nat) => (j : Int)).map fun i => Txt.mul ⟨#[c]⟩ (1 + i)) = js.map (wordA c) := by rw [List.map_map]; rfl
  rw [q, List.map_map] at z
  exact z
theorem compB {f : Int} {tail : Str} {x0 x1 x4 : Option RV} (f0 : 0 ≤ f) (h2 : tail.length ≤ 7) : ∀ (js : List Nat), (∀ j ∈ js, j < 8) →
    compD fYes (f2 gAdd (f2 gIx (fC (.str "abcdefghijklmnopqrstuvwxyz")) (f2 gMod (f2 gAdd (fVar 2) (f2 gMulS (fC (.int 5)) (fVar 5))) (fC (.int 26)))) (fVar 3)) 5 (js.map fun (j : Nat) => D.int j) [x0, x1, some (.p (.int f)), some (.p (.str tail)), x4] = some ((js.map (wordB f tail)).map D.str, [x0, x1, some (.p (.int f)), some (.p (.str tail)), x4])
  | [], _ => by simp
  | j :: js, h => by
    have ih := compB (x0 := x0) (x1 := x1) (x4 := x4) f0 h2 js fun i hi => h i (by simp [hi])
    have km : mulOk 5 (j : Int) = true := mul_small (by decide) (by decide)
    have el := letter_at (i := (f + 5 * (j : Int)) % 26) (Int.emod_nonneg _ (by decide)) (Int.emod_lt_of_pos _ (by decide))
    have hs := sizeLine_eq
    have l1 : ∀ c : Nat, (⟨#[c]⟩ : Str).length = 1 := fun _ => rfl
    have hz : (⟨#[97 + ((f + 5 * (j : Int)) % 26).toNat]⟩ : Str).length + tail.length ≤ sizeLine := by rw [l1]; omega
    simp [letters_fit, km, el, hz, ih, wordB]
set_option maxHeartbeats 0 in
theorem words_ok' {p : List D} {many : Int} (hp : Pot p) (h0 : 1 ≤ many) (h1 : many ≤ 8) : ∃ r ws p', FF_Ldeed_words [.L p, .p (.int many)] = some (r, [.L p', .p (.int many)]) ∧ items r = some (ws.map D.str) ∧ Pot p' ∧ WN 8 ws ∧ (ws.length : Int) = many := by
  obtain ⟨f, p1, e1, f0, f1, hp1⟩ := take' (m := 26) hp (by decide) (by decide)
  obtain ⟨q, p2, e2, q0, q1, hp2⟩ := take' (m := 2) hp1 (by decide) (by decide)
  have hm : many < 4611686018427387904 := by omega
  have hm2 : -4611686018427387904 ≤ many := by omega
  have hr : ∀ j ∈ List.range many.toNat, j < 8 := fun j hj => by rw [List.mem_range] at hj; omega
  have z2 : (2 : Nat) ≤ sizeLine := by decide
  have z4 : (4 : Nat) ≤ sizeLine := by decide
  have hs := sizeLine_eq
  have zr : many.toNat ≤ sizeLine := by omega
  by_cases hq : q = 0
  · obtain ⟨u, p3, e3, u0, u1, hp3⟩ := take' (m := 2) hp2 (by decide) (by decide)
    have ec := letter_at f0 f1
    have ea := compA (x0 := some (.L p2)) (x1 := some (.p (.int many))) (x3 := none) (x4 := none) ec (List.range many.toNat) hr
    have wn : WN 8 ((List.range many.toNat).map (wordA (97 + f.toNat))) := by
      refine ⟨nodup_map List.nodup_range fun a _ b _ e => wordA_inj e, fun s hs => ?_⟩
      obtain ⟨j, hj, rfl⟩ := List.mem_map.mp hs
      exact wordA_ok (by omega) (hr j hj)
    have hu : u = 0 ∨ u = 1 := by omega
    rcases hu with rfl | rfl
    · refine ⟨.p (.lst (((List.range many.toNat).map (wordA (97 + f.toNat))).map D.str)), _, p3, ?_, rfl, hp3, wn, by simp; omega⟩
      generalize (List.range many.toNat).map (wordA (97 + f.toNat)) = ws at *
      have a0 : ∀ x y : D, atI [x, y] 0 = some x := fun _ _ => rfl
      simp [FF_Ldeed_words, m_Ldeed_words, e1, e2, hq, fComp, fiRange1, hm, hm2, ea, zr, z2, itemsL, e3, a0]
    · refine ⟨.p (.lst (((List.range many.toNat).map (wordA (97 + f.toNat))).map D.str).reverse), ((List.range many.toNat).map (wordA (97 + f.toNat))).reverse, p3, ?_, by simp [items, itemsL], hp3, ⟨(List.reverse_perm _).nodup_iff.mpr wn.1, fun s hs => wn.2 s (List.mem_reverse.mp hs)⟩, by simp; omega⟩
      generalize (List.range many.toNat).map (wordA (97 + f.toNat)) = ws at *
      have a1 : ∀ x y : D, atI [x, y] 1 = some y := fun _ _ => rfl
      simp [FF_Ldeed_words, m_Ldeed_words, e1, e2, hq, fComp, fiRange1, hm, hm2, ea, zr, z2, itemsL, e3, a1]
  · obtain ⟨u, p3, e3, u0, u1, hp3⟩ := take' (m := 4) hp2 (by decide) (by decide)
    obtain ⟨tail, et, st, lt⟩ : ∃ w : Str, atI [D.str "", D.str "x", D.str "deed", D.str "seventh"] u = some (.str w) ∧ SOk w ∧ w.length ≤ 7 := by
      have h3 : u = 0 ∨ u = 1 ∨ u = 2 ∨ u = 3 := by omega
      rcases h3 with rfl | rfl | rfl | rfl
      · exact ⟨_, rfl, sok_of, by decide +kernel⟩
      · exact ⟨_, rfl, sok_of, by decide +kernel⟩
      · exact ⟨_, rfl, sok_of, by decide +kernel⟩
      · exact ⟨_, rfl, sok_of, by decide +kernel⟩
    have eb := compB (tail := tail) (x0 := some (.L p3)) (x1 := some (.p (.int many))) (x4 := none) f0 lt (List.range many.toNat) hr
    refine ⟨.L (((List.range many.toNat).map (wordB f tail)).map D.str), _, p3, ?_, rfl, hp3, ⟨nodup_map List.nodup_range fun a ha b hb e => wordB_inj (hr a ha) (hr b hb) e, fun s hs => ?_⟩, by simp; omega⟩
    · generalize (List.range many.toNat).map (wordB f tail) = ws at *
      simp [FF_Ldeed_words, m_Ldeed_words, e1, e2, hq, z4, e3, et, fComp, fiRange1, hm, hm2, eb, zr]
    · obtain ⟨j, hj, rfl⟩ := List.mem_map.mp hs
      exact wordB_ok st lt
end K08
namespace K08
open PySem PySem.Spec L2 L2.CF LL LR LS
def hdT (h : Str × List Str) : D := .tup [.str h.1, .tup (h.2.map .str)]
noncomputable def popB : FS := (sExpr (fLm gAppend (fVar 6) (fCons (fLm gPopAt (fVar 5) (fCons (fFn 2 FF_Ltake (fCons (fVar 0) (fCons (fCall gLen (fCons (fVar 5) (fNil))) (fNil)))) (fNil))) (fNil))))
theorem erase_map {α β : Type} (f : α → β) : ∀ (l : List α) (i : Nat), (l.map f).eraseIdx i = (l.eraseIdx i).map f
  | [], _ => rfl
  | _ :: _, 0 => rfl
  | a :: l, i + 1 => by simp only [List.map_cons, List.eraseIdx_cons_succ, erase_map f l i]
theorem erase_perm {α : Type} : ∀ (l : List α) (i : Nat) (h : i < l.length), List.Perm (l[i] :: l.eraseIdx i) l
  | [], _, h => by simp at h
  | a :: l, 0, _ => by simp
  | a :: l, i + 1, h => by
    simp only [List.getElem_cons_succ, List.eraseIdx_cons_succ]
    exact (List.Perm.swap a _ _).trans ((erase_perm l i (by simpa using h)).cons a)
theorem pops_run {x1 x2 x3 x4 : Option RV} : ∀ (ks : List D) (p : List D) (left ps : List Str) (y : Option RV), Pot p → WN 4 (ps ++ left) → ks.length ≤ left.length → left.length ≤ 1000 → ps.length + left.length ≤ 1000 →
    ∃ (left' ps' : List Str) (p' : List D) (y' : Option RV), forD (gName' 3 7) popB ks [some (.L p), x1, x2, x3, x4, some (.L (left.map .str)), some (.L (ps.map .str)), y] = some (.nx, [some (.L p'), x1, x2, x3, x4, some (.L (left'.map .str)), some (.L (ps'.map .str)), y']) ∧ Pot p' ∧ WN 4 ps' ∧ ps'.length = ps.length + ks.length
  | [], p, left, ps, y, hp, hw, _, _, _ => ⟨left, ps, p, y, rfl, hp, ⟨(List.nodup_append.mp hw.1).1, fun s hs => hw.2 s (by simp [hs])⟩, by simp⟩
  | k :: ks, p, left, ps, y, hp, hw, hk, hl, hz => by
    simp only [List.length_cons] at hk
    obtain ⟨r, p1, e1, r0, r1, hp1⟩ := take' (m := (left.length : Int)) hp (by omega) (by omega)
    have hlt : r.toNat < left.length := by omega
    have her : (left.map D.str).eraseIdx r.toNat = (left.eraseIdx r.toNat).map .str := erase_map _ _ _
    have hlen : (left.eraseIdx r.toNat).length = left.length - 1 := by rw [List.length_eraseIdx]; simp [hlt]
    have perm : List.Perm (ps ++ left) ((ps ++ [left[r.toNat]]) ++ left.eraseIdx r.toNat) := by
      rw [List.append_assoc]
      exact (erase_perm left r.toNat hlt).symm.append_left ps
    have hw' : WN 4 ((ps ++ [left[r.toNat]]) ++ left.eraseIdx r.toNat) := ⟨perm.nodup_iff.mp hw.1, fun s hs => hw.2 s (perm.mem_iff.mpr hs)⟩
    obtain ⟨left', ps', p', y', e2, h2, h3, h4⟩ := pops_run (x1 := x1) (x2 := x2) (x3 := x3) (x4 := x4) ks p1 (left.eraseIdx r.toNat) (ps ++ [left[r.toNat]]) (some (.p k)) hp1 hw' (by omega) (by omega) (by simp; omega)
    refine ⟨left', ps', p', y', ?_, h2, h3, by rw [h4]; simp; omega⟩
    have hs := sizeLine_eq
    have hr2 : r < 100000 := by omega
    have zp : ps.length < sizeLine := by omega
    simp only [popB, List.map_append, List.map_cons, List.map_nil] at e2
    simp [forD, popB, e1, r0, hr2, hlt, her, zp, e2]
noncomputable def headB : FS := (sSeq (sSet 3 5 (fCall gListOf (fCons (fVar 1) (fNil)))) (sSeq (sSet 3 6 (fLst (fNil))) (sSeq (sFor 3 (fiRange1 (fCons (fCall gMin (fCons (fCall gLen (fCons (fVar 1) (fNil))) (fCons (fFn 2 FF_Ltake (fCons (fVar 0) (fCons (fC (.int 5)) (fNil)))) (fNil)))) (fNil))) (gName' 3 7) popB) (sExpr (fLm gAppend (fVar 3) (fCons (fTupF 3 (fCons (fVar 4) (fCons (fCall gTupOf (fCons (fVar 6) (fNil))) (fNil)))) (fNil)))))))
set_option maxHeartbeats 0 in
theorem head_step {p : List D} {ns : List Str} {acc : List (Str × List Str)} {w : Str} {x2 x5 x6 x7 : Option RV} (hp : Pot p) (hn : WN 4 ns) (hl : ns.length ≤ 6) (ha : acc.length ≤ 100) :
    ∃ (ps : List Str) (p' : List D) (y5 y6 y7 : Option RV), headB [some (.L p), some (.L (ns.map .str)), x2, some (.L (acc.map hdT)), some (.p (.str w)), x5, x6, x7] = some (.nx, [some (.L p'), some (.L (ns.map .str)), x2, some (.L ((acc ++ [(w, ps)]).map hdT)), some (.p (.str w)), y5, y6, y7]) ∧ Pot p' ∧ WN 4 ps ∧ ps.length ≤ 4 := by
  obtain ⟨q, p1, e1, q0, q1, hp1⟩ := take' (m := 5) hp (by decide) (by decide)
  have key : ∀ m : Int, 0 ≤ m → m ≤ ns.length → m ≤ 4 → (if q < (ns.length : Int) then q else (ns.length : Int)) = m → ∃ (ps : List Str) (p' : List D) (y5 y6 y7 : Option RV), headB [some (.L p), some (.L (ns.map .str)), x2, some (.L (acc.map hdT)), some (.p (.str w)), x5, x6, x7] = some (.nx, [some (.L p'), some (.L (ns.map .str)), x2, some (.L ((acc ++ [(w, ps)]).map hdT)), some (.p (.str w)), y5, y6, y7]) ∧ Pot p' ∧ WN 4 ps ∧ ps.length ≤ 4 := by
    intro m m0 m1 m2 em
    obtain ⟨left', ps, p2, y7, e2, hp2, wp, lp⟩ := pops_run (x1 := some (.L (ns.map .str))) (x2 := x2) (x3 := some (.L (acc.map hdT))) (x4 := some (.p (.str w))) ((List.range m.toNat).map fun (i : Nat) => D.int i) p1 ns [] x7 hp1 (by simpa using hn) (by simp; omega) (by omega) (by simp; omega)
    refine ⟨ps, p2, some (.L (left'.map .str)), some (.L (ps.map .str)), y7, ?_, hp2, wp, by simp at lp; omega⟩
    have hs := sizeLine_eq
    have hm : m < 4611686018427387904 := by omega
    have hm2 : -4611686018427387904 ≤ m := by omega
    have za : acc.length < sizeLine := by omega
    have z2 : (2 : Nat) ≤ sizeLine := by decide
    simp only [List.map_nil] at e2
    unfold headB
    generalize popB = B at *
    simp [e1, em, sFor, fiRange1, hm, hm2, e2, za, z2, hdT]
  by_cases c : q < (ns.length : Int)
  · exact key q q0 (by omega) (by omega) (by rw [if_pos c])
  · exact key ns.length (by omega) (by omega) (by omega) (by rw [if_neg c])
theorem heads_run {ns : List Str} {x2 : Option RV} (hn : WN 4 ns) (hl : ns.length ≤ 6) : ∀ (ws : List Str) (p : List D) (acc : List (Str × List Str)) (x4 x5 x6 x7 : Option RV), Pot p → acc.length + ws.length ≤ 100 →
    ∃ (hs : List (Str × List Str)) (p' : List D) (y4 y5 y6 y7 : Option RV), forD (gName' 3 4) headB (ws.map D.str) [some (.L p), some (.L (ns.map .str)), x2, some (.L (acc.map hdT)), x4, x5, x6, x7] = some (.nx, [some (.L p'), some (.L (ns.map .str)), x2, some (.L ((acc ++ hs).map hdT)), y4, y5, y6, y7]) ∧ Pot p' ∧ hs.map (·.1) = ws ∧ ∀ h ∈ hs, WN 4 h.2 ∧ h.2.length ≤ 4
  | [], p, acc, x4, x5, x6, x7, hp, _ => ⟨[], p, x4, x5, x6, x7, by simp [forD], hp, rfl, by simp⟩
  | w :: ws, p, acc, x4, x5, x6, x7, hp, hz => by
    simp only [List.length_cons] at hz
    obtain ⟨ps, p1, a5, a6, a7, e1, hp1, w1, l1⟩ := head_step (x2 := x2) (x5 := x5) (x6 := x6) (x7 := x7) (acc := acc) (w := w) hp hn hl (by omega)
    obtain ⟨hs, p', y4, y5, y6, y7, e2, hp2, h3, h4⟩ := heads_run (x2 := x2) hn hl ws p1 (acc ++ [(w, ps)]) (some (.p (.str w))) a5 a6 a7 hp1 (by simp; omega)
    refine ⟨(w, ps) :: hs, p', y4, y5, y6, y7, ?_, hp2, by simp [h3], fun h hh => ?_⟩
    · rw [List.append_assoc] at e2
      generalize headB = B at *
      simp only [List.map_cons, forD, e_gName, e_setAt]
      simp [e1]
      simpa using e2
    · rcases List.mem_cons.mp hh with rfl | hh
      · exact ⟨w1, l1⟩
      · exact h4 h hh
theorem heads_eq : m_Lheads = sSeq (sSet 3 3 (fLst (fNil))) (sSeq (sFor 3 (fiSeq (fFn 2 FF_Ldeed_words (fCons (fVar 0) (fCons (fVar 2) (fNil))))) (gName' 3 4) headB) (sRet 3 (fVar 3))) := rfl
def HS (hs : List (Str × List Str)) : Prop := (hs.map (·.1)).Nodup ∧ (∀ h ∈ hs, okN h.1 ∧ WN 4 h.2 ∧ h.2.length ≤ 4) ∧ 0 < hs.length ∧ hs.length ≤ 8
theorem heads_ok {p : List D} {ns : List Str} {many : Int} (hp : Pot p) (hn : WN 4 ns) (hl : ns.length ≤ 6) (h0 : 1 ≤ many) (h1 : many ≤ 8) :
    ∃ hs p', FF_Lheads [.L p, .L (ns.map .str), .p (.int many)] = some (.L (hs.map hdT), [.L p', .L (ns.map .str), .p (.int many)]) ∧ Pot p' ∧ HS hs := by
  obtain ⟨r, ws, p1, e1, e2, hp1, wn, lw⟩ := words_ok' hp h0 h1
  obtain ⟨hs, p2, y4, y5, y6, y7, e3, hp2, h3, h4⟩ := heads_run (x2 := some (.p (.int many))) hn hl ws p1 [] none none none none hp1 (by simp; omega)
  have lh : hs.length = ws.length := by rw [← h3]; simp
  refine ⟨hs, p2, ?_, hp2, by rw [h3]; exact wn.1, fun h hh => ⟨?_, h4 h hh⟩, by omega, by omega⟩
  · unfold FF_Lheads
    rw [heads_eq]
    simp only [List.map_nil, List.nil_append] at e3
    generalize headB = B at *
    simp [sFor, fiSeq, e1, e2, e3]
  · have : h.1 ∈ ws := by rw [← h3]; exact List.mem_map_of_mem hh
    exact ⟨(wn.2 _ this).1, by have := (wn.2 _ this).2; omega⟩
end K08
namespace K08
open PySem PySem.Spec L2 L2.CF LL LR LS
theorem name_at {ss : List Str} {r : Int} (r0 : 0 ≤ r) (r1 : r < ss.length) : ∃ s, s ∈ ss ∧ atI (ss.map D.str) r = some (.str s) := by
  obtain ⟨k, rfl⟩ := Int.eq_ofNat_of_zero_le r0
  have hk : k < ss.length := by omega
  refine ⟨ss[k], List.getElem_mem _, ?_⟩
  rw [atN (by simpa using hk)]
  simp [hk]
theorem head_at {hs : List (Str × List Str)} {r : Int} (r0 : 0 ≤ r) (r1 : r < hs.length) : ∃ h, h ∈ hs ∧ atI (hs.map hdT) r = some (hdT h) := by
  obtain ⟨k, rfl⟩ := Int.eq_ofNat_of_zero_le r0
  have hk : k < hs.length := by omega
  refine ⟨hs[k], List.getElem_mem _, ?_⟩
  rw [atN (by simpa using hk)]
  simp [hk]
def NS (ss : List Str) : Prop := WN 4 ss ∧ 0 < ss.length ∧ ss.length ≤ 6
theorem NS.nl {ss : List Str} (h : NS ss) : NL 20 (ss.map D.str) := h.1.nl.mono (by decide)
theorem NS.ok {ss : List Str} (h : NS ss) {s : Str} (hs : s ∈ ss) : okN s := ⟨(h.1.2 s hs).1, by have := (h.1.2 s hs).2; omega⟩
theorem expr' {p : List D} {ss : List Str} {deep : Int} (hp : Pot p) (hn : NS ss) (h0 : 1 ≤ deep) (h1 : deep ≤ 6) : ∃ t p', FF_Ldrawn 6 [.L p, .L (ss.map .str), .p (.int deep)] = some (.p (emb t), [.L p', .L (ss.map .str), .p (.int deep)]) ∧ Pot p' ∧ wfE t := by
  rw [e_drawn]
  obtain ⟨t, p', e, h2, h3, h4⟩ := drawn_ok 6 hp hn.nl (by simpa using (by have := hn.2.2; omega : ss.length ≤ 12)) h0 h1
  exact ⟨t, p', e, h2, h3, by omega⟩
def ST (hs : List (Str × List Str)) (a : Addr) (r : Int) (ms : List Int) : RV := .S [.int r, .ptr a, .lst (hs.map hdT)] a (ms.map .int)
theorem args_draw {ns : List Str} (hn : NS ns) : ∀ (ds : List D) (p : List D), Pot p → ∃ (as : List ET) (p' : List D), (∀ x2 x3 x4 x5 : Option RV, compD fYes (fFn 3 (FF_Ldrawn 6) (fCons (fVar 0) (fCons (fVar 1) (fCons (f2 gAdd (fC (.int 1)) (fFn 2 FF_Ltake (fCons (fVar 0) (fCons (fC (.int 2)) (fNil))))) (fNil))))) 6 ds [some (.L p), some (.L (ns.map .str)), x2, x3, x4, x5] = some (as.map emb, [some (.L p'), some (.L (ns.map .str)), x2, x3, x4, x5])) ∧ Pot p' ∧ (∀ e ∈ as, wfE e) ∧ as.length = ds.length
  | [], p, hp => ⟨[], p, by intros; simp, hp, by intro e h; simp at h, rfl⟩
  | d :: ds, p, hp => by
    obtain ⟨q, p1, e1, q0, q1, hp1⟩ := take' (m := 2) hp (by decide) (by decide)
    obtain ⟨t, p2, e2, hp2, wt⟩ := expr' (deep := 1 + q) hp1 hn (by omega) (by omega)
    obtain ⟨as, p', e3, h2, h3, h4⟩ := args_draw hn ds p2 hp2
    refine ⟨t :: as, p', fun x2 x3 x4 x5 => by simp [e1, e2, e3], h2, fun e he => ?_, by simp [h4]⟩
    rcases List.mem_cons.mp he with rfl | he
    · exact wt
    · exact h3 e he
section
variable {hs : List (Str × List Str)} {ns : List Str}
set_option maxHeartbeats 0 in
theorem call_draw {p : List D} {r : Int} {ms : List Int} {m : Int} (hp : Pot p) (hh : HS hs) (hn : NS ns) (hm : 0 ≤ m ∧ m < 100) (hl : ms.length ≤ 100) :
    ∃ h w as p', (∀ a : Addr, FF_Lcall [.L p, .L (ns.map .str), ST hs a r (ms ++ [m])] = some (.p (embR (.call h w as m)), [.L p', .L (ns.map .str), ST hs a r ms])) ∧ Pot p' ∧ wfR 1 (.call h w as m) ∧ Fit hs [(w, as.length, m)] := by
  have h8 := hh.2.2
  have hsl := sizeLine_eq
  obtain ⟨i, p1, e1, i0, i1, hp1⟩ := take' (m := (hs.length : Int)) hp (by omega) (by omega)
  obtain ⟨hd, hmem, ea⟩ := head_at (hs := hs) i0 i1
  obtain ⟨g1, g2, g3⟩ := hh.2.1 hd hmem
  obtain ⟨nm, ps⟩ := hd
  simp only at g1 g2 g3
  obtain ⟨as, p2, e2, hp2, w2, l2⟩ := args_draw hn (ps.map D.str) p1 hp1
  obtain ⟨x, p3, e3, x0, x1, hp3⟩ := take' (m := (ns.length : Int)) hp2 (by have := hn.2.1; omega) (by have := hn.2.2; omega)
  obtain ⟨s, hsm, es⟩ := name_at (ss := ns) x0 x1
  have zp : ps.length ≤ sizeLine := by omega
  have z5 : (5 : Nat) ≤ sizeLine := by decide
  have at1 : ∀ x y z : D, atI [x, y, z] 1 = some y := fun _ _ _ => rfl
  have at2 : ∀ x y z : D, atI [x, y, z] 2 = some z := fun _ _ _ => rfl
  simp only [List.length_map] at l2
  refine ⟨s, nm, as, p3, ?_, hp3, ⟨hn.ok hsm, g1, by omega, w2, hm.1, hm.2⟩, fun c hc => ?_⟩
  · intro a
    simp only [hdT] at ea
    simp [FF_Lcall, m_Lcall, ST, at1, at2, items, itemsL, itemsT, e1, ea, fComp, fiSeq, zp, e2, e3, es, z5, embR]
  · simp at hc; subst hc
    exact ⟨_, hmem, rfl, l2.symm⟩
def MS (ms : List Int) : Prop := (∀ m ∈ ms, 0 ≤ m ∧ m < 100) ∧ ms.length ≤ 100
theorem MS.took {ms ms' : List Int} {cs : List (Str × Nat × Int)} (h : MS ms) (t : Took ms ms' cs) : MS ms' := by
  unfold Took at t
  subst t
  exact ⟨fun m hm => h.1 m (by simp [hm]), by have := h.2; simp at this; omega⟩
def RowOk (hs : List (Str × List Str)) (ns : List Str) (n d : Nat) : Prop := ∀ (p : List D) (r : Int) (ms : List Int), Pot p → MS ms → ∃ rt p' r' ms', (∀ a : Addr, GF_Lrow n 0 [.L p, .L (ns.map .str), ST hs a r ms, .p (.int (4 - d))] = some (.p (embR rt), [.L p', .L (ns.map .str), ST hs a r' ms', .p (.int (4 - d))])) ∧ Pot p' ∧ wfR d rt ∧ Took ms ms' (clsR rt) ∧ Fit hs (clsR rt)
def RowsOk (hs : List (Str × List Str)) (ns : List Str) (n d : Nat) : Prop := ∀ (p : List D) (r : Int) (ms : List Int), Pot p → MS ms → ∃ rs p' r' ms', (∀ a : Addr, GF_Lrow n 1 [.L p, .L (ns.map .str), ST hs a r ms, .p (.int (4 - d))] = some (.p (.tup (embRs rs)), [.L p', .L (ns.map .str), ST hs a r' ms', .p (.int (4 - d))])) ∧ Pot p' ∧ rs.length ≤ lenB d ∧ (∀ r ∈ rs, wfR d r) ∧ Took ms ms' (clsRs rs) ∧ Fit hs (clsRs rs)
noncomputable def rowsL (F : FF) : FS := (sIf (fT (f2 gGt (f2 gIx (fVar 2) (fC (.int 0))) (fC (.int 0)))) (sExpr (fLm gAppend (fVar 4) (fCons (fFn 4 F (fCons (fVar 0) (fCons (fVar 1) (fCons (fVar 2) (fCons (fVar 3) (fNil)))))) (fNil)))) (sNext))
theorem at3 (x y z : D) : atI [x, y, z] 0 = some x := rfl
theorem loop_ok {n d : Nat} (H : RowOk hs ns n d) : ∀ (ds : List D) (p : List D) (r : Int) (ms : List Int) (acc : List RT) (x : Option RV), Pot p → MS ms → (∀ r ∈ acc, wfR d r) → acc.length + ds.length ≤ 100 →
    ∃ rs p' r' ms' x', (∀ a : Addr, forD (gName' 4 5) (rowsL (GF_Lrow n 0)) ds [some (.L p), some (.L (ns.map .str)), some (ST hs a r ms), some (.p (.int (4 - d))), some (.L (embRs acc)), x] = some (.nx, [some (.L p'), some (.L (ns.map .str)), some (ST hs a r' ms'), some (.p (.int (4 - d))), some (.L (embRs (acc ++ rs))), x'])) ∧ Pot p' ∧ (∀ r ∈ rs, wfR d r) ∧ rs.length ≤ ds.length ∧ Took ms ms' (clsRs rs) ∧ Fit hs (clsRs rs)
  | [], p, r, ms, acc, x, hp, hm, ha, _ => ⟨[], p, r, ms, x, by simp [forD], hp, by simp, by simp, by simpa [clsRs] using Took.nil, by simpa [clsRs] using Fit.nil⟩
  | e :: ds, p, r, ms, acc, x, hp, hm, ha, hl => by
    simp only [List.length_cons] at hl
    by_cases hr : 0 < r
    · obtain ⟨rt, p1, r1, ms1, e1, hp1, w1, t1, f1⟩ := H p r ms hp hm
      obtain ⟨rs, p', r', ms', x', e2, h2, h3, h4, t2, f2⟩ := loop_ok H ds p1 r1 ms1 (acc ++ [rt]) (some (.p e)) hp1 (hm.took t1) (fun r h => by
        rcases List.mem_append.mp h with h | h
        · exact ha r h
        · simp at h; subst h; exact w1) (by simp; omega)
      refine ⟨rt :: rs, p', r', ms', x', ?_, h2, fun r hr => ?_, by simp; omega, t1.trans t2, f1.app f2⟩
      · intro a
        have hsl := sizeLine_eq
        have hz : (embRs acc).length < sizeLine := by rw [embs_len]; omega
        rw [List.append_assoc, embs_app acc [rt]] at e2
        simp only [embRs, rowsL, ST, List.cons_append, List.nil_append] at e1 e2
        simp [forD, rowsL, ST, at3, hr, e1, hz, e2]
      · rcases List.mem_cons.mp hr with rfl | hr
        · exact w1
        · exact h3 r hr
    · obtain ⟨rs, p', r', ms', x', e2, h2, h3, h4, t2, f2⟩ := loop_ok H ds p r ms acc (some (.p e)) hp hm ha (by omega)
      refine ⟨rs, p', r', ms', x', ?_, h2, h3, by simp; omega, t2, f2⟩
      intro a
      simp only [rowsL, ST] at e2
      simp [forD, rowsL, ST, at3, hr, e2]
theorem rows_draw {n d : Nat} (hd : 1 ≤ d) (hd3 : d ≤ 3) (H : RowOk hs ns n d) : RowsOk hs ns (n + 1) d := by
  intro p r ms hp hm
  have key : ∀ (m : Int), 1 ≤ m → m ≤ 100 → m ≤ lenB d + 1 → (atI [D.int 6, D.int 4, D.int 3] (4 - (d : Int) - 1) = some (.int m)) → ∃ rs p' r' ms', (∀ a : Addr, GF_Lrow (n + 1) 1 [.L p, .L (ns.map .str), ST hs a r ms, .p (.int (4 - d))] = some (.p (.tup (embRs rs)), [.L p', .L (ns.map .str), ST hs a r' ms', .p (.int (4 - d))])) ∧ Pot p' ∧ rs.length ≤ lenB d ∧ (∀ r ∈ rs, wfR d r) ∧ Took ms ms' (clsRs rs) ∧ Fit hs (clsRs rs) := by
    intro m m0 m1 m2 em
    obtain ⟨q, p1, e1, q0, q1, hp1⟩ := take' (m := m) hp (by omega) (by omega)
    obtain ⟨rs, p', r', ms', x', e2, h2, h3, h4, t2, f2⟩ := loop_ok H ((List.range q.toNat).map fun (i : Nat) => D.int i) p1 r ms [] none hp1 hm (by intro r h; simp at h) (by simp; omega)
    refine ⟨rs, p', r', ms', ?_, h2, by simp at h4; omega, h3, t2, f2⟩
    intro a
    have z3 : (3 : Nat) ≤ sizeLine := by decide
    have y1 : -(4611686018427387904) ≤ q := by omega
    have y2 : q < 4611686018427387904 := by omega
    simp only [rowsL, embRs, ST, List.nil_append] at e2
    simp [GF_Lrow, m_Lrows, ST, em, e1, z3, sFor, fiRange1, y1, y2, e2]
  match d, hd, hd3 with
  | 1, _, _ => exact key 3 (by decide) (by decide) (by decide) rfl
  | 2, _, _ => exact key 4 (by decide) (by decide) (by decide) rfl
  | 3, _, _ => exact key 6 (by decide) (by decide) (by decide) rfl
end
end K08
namespace K08
open PySem PySem.Spec L2 L2.CF LL LR LS
theorem toPys_ints : ∀ ms : List Int, toPys (ms.map D.int) = ms.map PyData.int
  | [] => rfl
  | s :: ss => by simp [toPys, toPy, toPys_ints ss]
theorem lay_ints : ∀ ms : List Int, PyData.canLayAll0 (ms.map PyData.int) = true
  | [] => by simp [PyData.canLayAll0]
  | s :: ss => by simp [PyData.canLayAll0, PyData.canLay0, lay_ints ss]
theorem dep_ints : ∀ ms : List Int, PyData.depthAll (ms.map PyData.int) = 0
  | [] => by simp [PyData.depthAll]
  | s :: ss => by simp [PyData.depthAll, PyData.depth, dep_ints ss]
theorem ok_ints {ms : List Int} : okD (.lst (ms.map D.int)) = true := by
  unfold okD
  simp only [toPy, toPys_ints, PyData.canLay0, PyData.depth, dep_ints, lay_ints]
  decide
noncomputable def rowC : FT := fAnd (fT (f2 gGt (fVar 4) (fC (.int 4)))) (fAnd (fT (f2 gLt (fVar 4) (fC (.int 8)))) (fT (fCmpS gNe 2 (f2 gIx (fVar 2) (fC (.int 1))) (fLst (fNil)))))
noncomputable def rowT (FF_Lrow FF_Lrows : FF) : FS := sSeq (sIf (fAnd (fT (f2 gEq (fVar 4) (fC (.int 8)))) (fT (f2 gLt (fVar 3) (fC (.int 3))))) (sSeq (sSet 4 5 (fFn 4 FF_Lrows (fCons (fVar 0) (fCons (fVar 1) (fCons (fVar 2) (fCons (f2 gAdd (fVar 3) (fC (.int 1))) (fNil))))))) (sRet 4 (fTupF 4 (fCons (fC (.str "when")) (fCons (fFn 3 (FF_Ldrawn 6) (fCons (fVar 0) (fCons (fVar 1) (fCons (fC (.int 2)) (fNil))))) (fCons (fVar 5) (fCons (fFn 4 FF_Lrows (fCons (fVar 0) (fCons (fVar 1) (fCons (fVar 2) (fCons (f2 gAdd (fVar 3) (fC (.int 1))) (fNil)))))) (fNil)))))))) (sNext)) (sSeq (sIf (fAnd (fT (f2 gEq (fVar 4) (fC (.int 9)))) (fT (f2 gLt (fVar 3) (fC (.int 3))))) (sSeq (sSet 4 6 (fTupF 4 (fCons (fC (.str "number")) (fCons (f2 gAdd (fFn 2 FF_Ltake (fCons (fVar 0) (fCons (fC (.int 4)) (fNil)))) (f2 gMulS (fC (.int 10)) (fFn 2 FF_Ltake (fCons (fVar 0) (fCons (fC (.int 2)) (fNil)))))) (fNil))))) (sSeq (sIf (fT (f2 gEq (fFn 2 FF_Ltake (fCons (fVar 0) (fCons (fC (.int 4)) (fNil)))) (fC (.int 0)))) (sSet 4 6 (fFn 3 (FF_Ldrawn 6) (fCons (fVar 0) (fCons (fVar 1) (fCons (fC (.int 2)) (fNil)))))) (sNext)) (sRet 4 (fTupF 4 (fCons (fC (.str "turn")) (fCons (fVar 6) (fCons (fFn 4 FF_Lrows (fCons (fVar 0) (fCons (fVar 1) (fCons (fVar 2) (fCons (f2 gAdd (fVar 3) (fC (.int 1))) (fNil)))))) (fNil)))))))) (sNext)) (sSeq (sIf (fT (f2 gGt (fVar 4) (fC (.int 2)))) (sRet 4 (fTupF 4 (fCons (fC (.str "say")) (fCons (fFn 3 (FF_Ldrawn 6) (fCons (fVar 0) (fCons (fVar 1) (fCons (f2 gAdd (fC (.int 1)) (fFn 2 FF_Ltake (fCons (fVar 0) (fCons (fC (.int 3)) (fNil))))) (fNil))))) (fNil))))) (sNext)) (sRet 4 (fTupF 4 (fCons (fC (.str "set")) (fCons (f2 gIx (fVar 1) (fFn 2 FF_Ltake (fCons (fVar 0) (fCons (fCall gLen (fCons (fVar 1) (fNil))) (fNil))))) (fCons (fFn 3 (FF_Ldrawn 6) (fCons (fVar 0) (fCons (fVar 1) (fCons (f2 gAdd (fC (.int 1)) (fFn 2 FF_Ltake (fCons (fVar 0) (fCons (fC (.int 3)) (fNil))))) (fNil))))) (fNil))))))))
theorem row_eq (FF_Lrow FF_Lrows : FF) : m_Lrow FF_Lrow FF_Lrows = sSeq (sSetS (f2 gSub (f2 gIx (fVar 2) (fC (.int 0))) (fC (.int 1))) (fVar 2) (fC (.int 0))) (sSeq (sSet 4 4 (fFn 2 FF_Ltake (fCons (fVar 0) (fCons (fC (.int 10)) (fNil))))) (sSeq (sIf rowC (sRet 4 (fFn 3 FF_Lcall (fCons (fVar 0) (fCons (fVar 1) (fCons (fVar 2) (fNil)))))) (sNext)) (rowT FF_Lrow FF_Lrows))) := rfl
section
variable {hs : List (Str × List Str)} {ns : List Str} {a : Addr}
theorem at1 (x y z : D) : atI [x, y, z] 1 = some y := rfl
theorem rowC_ok {ms : List Int} {way r : Int} {p : List D} {x1 x3 x5 x6 : Option RV} : rowC [some (.L p), x1, some (ST hs a r ms), x3, some (.p (.int way)), x5, x6] = some (decide ((4 < way ∧ way < 8) ∧ ms ≠ []), [some (.L p), x1, some (ST hs a r ms), x3, some (.p (.int way)), x5, x6]) := by
  have okm := ok_ints (ms := ms)
  have emp : (ms.map D.int).isEmpty = ms.isEmpty := by cases ms <;> rfl
  by_cases c1 : 4 < way
  · by_cases c2 : way < 8
    · simp [rowC, ST, at1, c1, c2, okm, ok_nil, eq_nil, emp]
      cases ms <;> simp
    · simp [rowC, c1, c2]
  · simp [rowC, c1]
theorem and_no {way x k : Int} {y0 y1 y2 y5 y6 : Option RV} (h : way = k → ¬ x < 3) : fAnd (fT (f2 gEq (fVar 4) (fC (.int k)))) (fT (f2 gLt (fVar 3) (fC (.int 3)))) [y0, y1, y2, some (.p (.int x)), some (.p (.int way)), y5, y6] = some (false, [y0, y1, y2, some (.p (.int x)), some (.p (.int way)), y5, y6]) := by
  by_cases hk : way = k
  · simp [hk, h hk]
  · simp [hk]
theorem up {q : Int} (h0 : 0 ≤ q) (h1 : q < 3) : 1 ≤ 1 + q ∧ 1 + q ≤ 6 := by omega
theorem skip {t : FT} {a b : FS} {st : DS} (h : t st = some (false, st)) : sSeq (sIf t a sNext) b st = b st := by simp [h]
theorem yes {t : FT} {a b : FS} {st st' : DS} {v : RV} (h : t st = some (true, st)) (ha : a st = some (.rt v, st')) : sSeq (sIf t a sNext) b st = some (.rt v, st') := by simp [h, ha]
def RestP (hs : List (Str × List Str)) (ns : List Str) (n d : Nat) (way : Int) (p : List D) (r x : Int) (ms : List Int) : Prop := ∃ rt p' r' ms' y5 y6, (∀ a : Addr, rowT (GF_Lrow n 0) (GF_Lrow n 1) [some (.L p), some (.L (ns.map .str)), some (ST hs a r ms), some (.p (.int x)), some (.p (.int way)), none, none] = some (.rt (.p (embR rt)), [some (.L p'), some (.L (ns.map .str)), some (ST hs a r' ms'), some (.p (.int x)), some (.p (.int way)), y5, y6])) ∧ Pot p' ∧ wfR (d + 1) rt ∧ Took ms ms' (clsR rt) ∧ Fit hs (clsR rt)
theorem RestP.mk {n d : Nat} {way : Int} {p : List D} {r x : Int} {ms : List Int} (h : ∃ rt p' r' ms' y5 y6, (∀ a : Addr, rowT (GF_Lrow n 0) (GF_Lrow n 1) [some (.L p), some (.L (ns.map .str)), some (ST hs a r ms), some (.p (.int x)), some (.p (.int way)), none, none] = some (.rt (.p (embR rt)), [some (.L p'), some (.L (ns.map .str)), some (ST hs a r' ms'), some (.p (.int x)), some (.p (.int way)), y5, y6])) ∧ Pot p' ∧ wfR (d + 1) rt ∧ Took ms ms' (clsR rt) ∧ Fit hs (clsR rt)) : RestP hs ns n d way p r x ms := h
theorem rest_ok {n d : Nat} {way : Int} {p : List D} {r x : Int} {ms : List Int} (w0 : 0 ≤ way) (w1 : way < 10) (hn : NS ns) (hp : Pot p) (hm : MS ms) (hx2 : x < 3 ↔ 1 ≤ d)
    (H : 1 ≤ d → ∀ (p : List D) (r : Int) (ms : List Int), Pot p → MS ms → ∃ rs p' r' ms', (∀ a : Addr, GF_Lrow n 1 [.L p, .L (ns.map .str), ST hs a r ms, .p (.int (x + 1))] = some (.p (.tup (embRs rs)), [.L p', .L (ns.map .str), ST hs a r' ms', .p (.int (x + 1))])) ∧ Pot p' ∧ rs.length ≤ lenB d ∧ (∀ r ∈ rs, wfR d r) ∧ Took ms ms' (clsRs rs) ∧ Fit hs (clsRs rs)) :
    RestP hs ns n d way p r x ms := by
  have z2 : (2 : Nat) ≤ sizeLine := by decide
  have z3 : (3 : Nat) ≤ sizeLine := by decide
  have z4 : (4 : Nat) ≤ sizeLine := by decide
  by_cases h8 : way = 8 ∧ 1 ≤ d
  · obtain ⟨h8, hd1⟩ := h8
    have hx : x < 3 := hx2.mpr hd1
    obtain ⟨ra, p5, r5, m5, e5, hp5, la, wa, ta, fa⟩ := H hd1 p r ms hp hm
    obtain ⟨t, p6, e6, hp6, wt⟩ := expr' (deep := 2) hp5 hn (by decide) (by decide)
    obtain ⟨rb, p7, r7, m7, e7, hp7, lb, wb, tb, fb⟩ := H hd1 p6 r5 m5 hp6 (hm.took ta)
    refine RestP.mk ⟨.whn t ra rb, p7, r7, m7, some (.p (.tup (embRs ra))), none, ?_, hp7, ⟨hd1, wt, la, lb, wa, wb⟩, ta.trans tb, fa.app fb⟩
    intro a
    simp only [ST] at e5 e7 ⊢
    rw [rowT]
    refine yes (by simp [h8, hx]) ?_
    simp [e5, e6, e7, z4, embR]
  · by_cases h9 : way = 9 ∧ 1 ≤ d
    · obtain ⟨h9, hd1⟩ := h9
      have hx : x < 3 := hx2.mpr hd1
      obtain ⟨u, p2, e2, u0, u1, hp2⟩ := take' (m := 4) hp (by decide) (by decide)
      obtain ⟨v, p3, e3, v0, v1, hp3⟩ := take' (m := 2) hp2 (by decide) (by decide)
      obtain ⟨q, p4, e4, q0, q1, hp4⟩ := take' (m := 4) hp3 (by decide) (by decide)
      have km : mulOk 10 v = true := mul_small (by decide) (by decide)
      by_cases hq : q = 0
      · obtain ⟨t, p5, e5, hp5, wt⟩ := expr' (deep := 2) hp4 hn (by decide) (by decide)
        obtain ⟨ra, p6, r6, m6, e6, hp6, la, wa, ta, fa⟩ := H hd1 p5 r ms hp5 hm
        refine RestP.mk ⟨.trn t ra, p6, r6, m6, none, some (.p (emb t)), ?_, hp6, ⟨hd1, wt, la, wa⟩, ta, fa⟩
        intro a
        simp only [ST] at e6 ⊢
        rw [rowT, skip (and_no fun e => absurd (h9.symm.trans e) (by decide))]
        refine yes (by simp [h9, hx]) ?_
        simp [e2, e3, e4, km, z2, hq, e5, e6, z3, embR]
      · obtain ⟨ra, p6, r6, m6, e6, hp6, la, wa, ta, fa⟩ := H hd1 p4 r ms hp4 hm
        refine RestP.mk ⟨.trn (.num (u + 10 * v)) ra, p6, r6, m6, none, some (.p (emb (.num (u + 10 * v)))), ?_, hp6, ⟨hd1, ⟨⟨by omega, by omega⟩, by show 1 ≤ 6; omega⟩, la, wa⟩, ta, fa⟩
        intro a
        simp only [ST] at e6 ⊢
        rw [rowT, skip (and_no fun e => absurd (h9.symm.trans e) (by decide))]
        refine yes (by simp [h9, hx]) ?_
        simp [e2, e3, e4, km, z2, hq, e6, z3, embR, emb]
    · have g8 : way = 8 → ¬ x < 3 := fun e hx => h8 ⟨e, hx2.mp hx⟩
      have g9 : way = 9 → ¬ x < 3 := fun e hx => h9 ⟨e, hx2.mp hx⟩
      by_cases h2 : 2 < way
      · obtain ⟨q, p2, e2, q0, q1, hp2⟩ := take' (m := 3) hp (by decide) (by decide)
        obtain ⟨t, p3, e3, hp3, wt⟩ := expr' (deep := 1 + q) hp2 hn (up q0 q1).1 (up q0 q1).2
        refine RestP.mk ⟨.say t, p3, r, ms, none, none, ?_, hp3, wt, by simpa [clsR] using Took.nil, by simpa [clsR] using Fit.nil⟩
        intro a
        simp only [ST]
        rw [rowT, skip (and_no g8), skip (and_no g9)]
        refine yes (by simp [h2]) ?_
        simp [e2, e3, z2, embR]
      · obtain ⟨u, p2, e2, u0, u1, hp2⟩ := take' (m := (ns.length : Int)) hp (by have := hn.2.1; omega) (by have := hn.2.2; omega)
        obtain ⟨s, hsm, es⟩ := name_at (ss := ns) u0 u1
        obtain ⟨q, p3, e3, q0, q1, hp3⟩ := take' (m := 3) hp2 (by decide) (by decide)
        obtain ⟨t, p4, e4, hp4, wt⟩ := expr' (deep := 1 + q) hp3 hn (up q0 q1).1 (up q0 q1).2
        refine RestP.mk ⟨.set s t, p4, r, ms, none, none, ?_, hp4, ⟨hn.ok hsm, wt⟩, by simpa [clsR] using Took.nil, by simpa [clsR] using Fit.nil⟩
        intro a
        simp only [ST]
        rw [rowT, skip (and_no g8), skip (and_no g9), skip (by simp [h2])]
        simp [items, itemsL, e2, es, e3, e4, z3, embR]
set_option maxHeartbeats 0 in
theorem row_draw {n d : Nat} (hd : d ≤ 2) (hh : HS hs) (hn : NS ns) (H : 1 ≤ d → RowsOk hs ns n d) : RowOk hs ns (n + 1) (d + 1) := by
  intro p r ms hp hm
  have hx1 : (4 - ((d + 1 : Nat) : Int)) + 1 = 4 - (d : Int) := by omega
  have hx2 : (4 - ((d + 1 : Nat) : Int)) < 3 ↔ 1 ≤ d := by omega
  unfold RowsOk at H
  rw [← hx1] at H
  generalize 4 - ((d + 1 : Nat) : Int) = x at *
  obtain ⟨way, p1, e1, w0, w1, hp1⟩ := take' (m := 10) hp (by decide) (by decide)
  have i0 : ixN 3 0 = some 0 := rfl
  by_cases hc : (4 < way ∧ way < 8) ∧ ms ≠ []
  · have eC := fun a : Addr => rowC_ok (hs := hs) (a := a) (ms := ms) (way := way) (r := r - 1) (p := p1) (x1 := some (.L (ns.map .str))) (x3 := some (.p (.int x))) (x5 := none) (x6 := none)
    simp only [decide_eq_true hc] at eC
    obtain ⟨m0, m, rfl⟩ : ∃ m0 m, ms = m0 ++ [m] := ⟨ms.dropLast, ms.getLast hc.2, (List.dropLast_concat_getLast hc.2).symm⟩
    have hmm := hm.1 m (by simp)
    have hml := hm.2
    obtain ⟨h, w, as, p', g1, g2, g3, g4⟩ := call_draw (r := r - 1) (ms := m0) hp1 hh hn hmm (by simp at hml; omega)
    have g3' : wfR (d + 1) (.call h w as m) := g3
    refine ⟨.call h w as m, p', r - 1, m0, ?_, g2, g3', by simp [Took, clsR, mrk], g4⟩
    intro a
    show runBody 7 (m_Lrow (GF_Lrow n 0) (GF_Lrow n 1)) _ = _
    rw [row_eq]
    generalize rowC = C at *
    generalize rowT (GF_Lrow n 0) (GF_Lrow n 1) = T at *
    simp only [ST] at eC g1 ⊢
    generalize (m0 ++ [m]).map D.int = mm at *
    simp [at3, i0, e1, eC, g1]
  · have eC := fun a : Addr => rowC_ok (hs := hs) (a := a) (ms := ms) (way := way) (r := r - 1) (p := p1) (x1 := some (.L (ns.map .str))) (x3 := some (.p (.int x))) (x5 := none) (x6 := none)
    simp only [decide_eq_false hc] at eC
    obtain ⟨rt, p', r', ms', y5, y6, g1, g2, g3, g4, g5⟩ := rest_ok (hs := hs) (r := r - 1) (n := n) (d := d) w0 w1 hn hp1 hm hx2 H
    refine ⟨rt, p', r', ms', ?_, g2, g3, g4, g5⟩
    intro a
    show runBody 7 (m_Lrow (GF_Lrow n 0) (GF_Lrow n 1)) _ = _
    rw [row_eq]
    generalize rowC = C at *
    generalize rowT (GF_Lrow n 0) (GF_Lrow n 1) = T at *
    simp only [ST] at eC g1 ⊢
    simp [at3, i0, e1, eC, g1]
theorem rows8 (hh : HS hs) (hn : NS ns) : RowsOk hs ns 8 3 := by
  have a1 := row_draw (n := 2) (d := 0) (by decide) hh hn (by intro h; omega)
  have b1 := rows_draw (by decide) (by decide) a1
  have a2 := row_draw (n := 4) (d := 1) (by decide) hh hn (fun _ => b1)
  have b2 := rows_draw (by decide) (by decide) a2
  have a3 := row_draw (n := 6) (d := 2) (by decide) hh hn (fun _ => b2)
  exact rows_draw (by decide) (by decide) a3
end
end K08
namespace K08
open PySem PySem.Spec L2 L2.CF LL LR LS
noncomputable def innB : FS := (sSeq (sSet 2 11 (fFn 4 (FF_Lrows 8) (fCons (fVar 2) (fCons (fVar 3) (fCons (fVar 10) (fCons (fC (.int 1)) (fNil))))))) (sExpr (fLm gAppend (fVar 8) (fCons (fTupF 2 (fCons (fVar 12) (fCons (fVar 13) (fCons (fVar 11) (fCons (fFn 3 (FF_Ldrawn 6) (fCons (fVar 2) (fCons (fVar 3) (fCons (f2 gAdd (fC (.int 1)) (fFn 2 FF_Ltake (fCons (fVar 2) (fCons (fC (.int 3)) (fNil))))) (fNil))))) (fNil)))))) (fNil)))))
noncomputable def deedB : FS := (sSeq (sSet 2 2 (fFn 2 FF_Lpot (fCons (f2 gIx (fVar 0) (f2 gMod (f2 gAdd (fVar 9) (fC (.int 1))) (fC (.int 8)))) (fCons (f2 gAdd (fVar 9) (fC (.int 1))) (fNil))))) (sAlias 2 7 4 10 (f2 gIx (fLst (fCons (fC (.int 8)) (fCons (fC (.int 20)) (fCons (fC (.int 12)) (fNil))))) (fFn 2 FF_Ltake (fCons (fVar 2) (fCons (fC (.int 3)) (fNil))))) innB))
theorem book_eq : m_Lbook = sSeq (sSet 2 2 (fFn 2 FF_Lpot (fCons (f2 gIx (fVar 0) (fC (.int 0))) (fCons (fC (.int 0)) (fNil))))) (sSeq (sSet 2 3 (fFn 2 FF_Lnames (fCons (fVar 2) (fCons (f2 gAdd (fC (.int 1)) (fFn 2 FF_Ltake (fCons (fVar 2) (fCons (fC (.int 6)) (fNil))))) (fNil))))) (sSeq (sSet 2 4 (fFn 3 FF_Lheads (fCons (fVar 2) (fCons (fVar 3) (fCons (f2 gAdd (fC (.int 1)) (fFn 2 FF_Ltake (fCons (fVar 2) (fCons (fVar 1) (fNil))))) (fNil)))))) (sSeq (sSet 2 5 (frzE 2 4 (fFn 2 FF_Ltake (fCons (fVar 2) (fCons (fC (.int 100)) (fNil)))))) (sSeq (sSet 2 6 (f2 gIx (fLst (fCons (fC (.int 1)) (fCons (fC (.int 3)) (fCons (fC (.int 7)) (fCons (fC (.int 9)) (fCons (fC (.int 51)) (fCons (fC (.int 99)) (fNil)))))))) (fFn 2 FF_Ltake (fCons (fVar 2) (fCons (fC (.int 6)) (fNil)))))) (sSeq (sSet 2 7 (fComp (fiRange1 (fCons (f2 gAdd (fC (.int 1)) (fFn 2 FF_Ltake (fCons (fVar 2) (fCons (fC (.int 10)) (fNil))))) (fNil))) (fYes) (f2 gMod (f2 gAdd (fVar 5) (f2 gMulS (fVar 6) (fVar 14))) (fC (.int 100))))) (sSeq (sSet 2 8 (fLst (fNil))) (sSeq (sFor 2 (fiEnum (fCons (fVar 4) (fNil))) (gPair (gName' 2 9) (gPair (gName' 2 12) (gName' 2 13))) deedB) (sRet 2 (fVar 8))))))))) := rfl
def clsB : List DT → List (Str × Nat × Int)
  | [] => []
  | x :: xs => clsRs x.rows ++ clsB xs
section
variable {hs : List (Str × List Str)} {ns : List Str}
set_option maxHeartbeats 0 in
theorem inn_ok {p : List D} {h : Str × List Str} {r : Int} {ms : List Int} {acc : List DT} {x0 x1 x4 x5 x6 x9 x11 : Option RV} (hp : Pot p) (hm : MS ms) (hh : HS hs) (hn : NS ns) (ho : okN h.1 ∧ WN 4 h.2 ∧ h.2.length ≤ 4) (hl : acc.length ≤ 100) :
    ∃ (x : DT) (p' : List D) (r' : Int) (ms' : List Int), (∀ a : Addr, innB [x0, x1, some (.L p), some (.L (ns.map .str)), x4, x5, x6, some (.p (.ptr a)), some (.L (acc.map embD)), x9, some (ST hs a r ms), x11, some (.p (.str h.1)), some (.p (.tup (h.2.map .str)))] = some (.nx, [x0, x1, some (.L p'), some (.L (ns.map .str)), x4, x5, x6, some (.p (.ptr a)), some (.L ((acc ++ [x]).map embD)), x9, some (ST hs a r' ms'), some (.p (.tup (embRs x.rows))), some (.p (.str h.1)), some (.p (.tup (h.2.map .str)))])) ∧ Pot p' ∧ wfD x ∧ x.nm = h.1 ∧ x.ps = h.2 ∧ Took ms ms' (clsRs x.rows) ∧ Fit hs (clsRs x.rows) := by
  obtain ⟨o1, o2, o3⟩ := ho
  obtain ⟨rs, p1, r1, m1, e1, hp1, lr, wr, t1, f1⟩ := rows8 hh hn p r ms hp hm
  obtain ⟨q, p2, e2, q0, q1, hp2⟩ := take' (m := 3) hp1 (by decide) (by decide)
  obtain ⟨t, p3, e3, hp3, wt⟩ := expr' (deep := 1 + q) hp2 hn (by omega) (by omega)
  refine ⟨⟨h.1, h.2, rs, t⟩, p3, r1, m1, ?_, hp3, ⟨o1, ⟨o3, fun s hs => ⟨(o2.2 s hs).1, by have := (o2.2 s hs).2; omega⟩⟩, ⟨lr, wr⟩, wt⟩, rfl, rfl, t1, f1⟩
  intro a
  have hsl := sizeLine_eq
  have z4 : (4 : Nat) ≤ sizeLine := by decide
  have za : acc.length < sizeLine := by omega
  have e1 := e1 a
  rw [show (4 : Int) - ((3 : Nat) : Int) = 1 by decide] at e1
  simp only [ST] at e1 ⊢
  simp [innB, e1, e2, e3, z4, za, embD]
theorem unal_ok {x0 x1 x2 x3 x4 x5 x6 x8 x9 x11 x12 x13 : Option RV} {a : Addr} {r : Int} {ms : List Int} : unal 7 10 (.nx, [x0, x1, x2, x3, x4, x5, x6, some (.p (.ptr a)), x8, x9, some (ST hs a r ms), x11, x12, x13]) = some (.nx, [x0, x1, x2, x3, x4, x5, x6, some (.L (ms.map .int)), x8, x9, some (.p .any), x11, x12, x13]) := by
  simp [unal, ST]
set_option maxHeartbeats 0 in
theorem deed_step {cs : List Int} {p : List D} {h : Str × List Str} {ms : List Int} {acc : List DT} {j : Nat} {x1 x5 x6 x10 x11 : Option RV} (hc : cs.length = 8) (hj : j < 100) (hm : MS ms) (hh : HS hs) (hn : NS ns) (ho : okN h.1 ∧ WN 4 h.2 ∧ h.2.length ≤ 4) (hl : acc.length ≤ 100) :
    ∃ (x : DT) (p' : List D) (ms' : List Int), deedB [some (.L (cs.map .int)), x1, some (.L p), some (.L (ns.map .str)), some (.p (.lst (hs.map hdT))), x5, x6, some (.L (ms.map .int)), some (.L (acc.map embD)), some (.p (.int j)), x10, x11, some (.p (.str h.1)), some (.p (.tup (h.2.map .str)))] = some (.nx, [some (.L (cs.map .int)), x1, some (.L p'), some (.L (ns.map .str)), some (.p (.lst (hs.map hdT))), x5, x6, some (.L (ms'.map .int)), some (.L ((acc ++ [x]).map embD)), some (.p (.int j)), some (.p .any), some (.p (.tup (embRs x.rows))), some (.p (.str h.1)), some (.p (.tup (h.2.map .str)))]) ∧ wfD x ∧ x.nm = h.1 ∧ x.ps = h.2 ∧ Took ms ms' (clsRs x.rows) ∧ Fit hs (clsRs x.rows) := by
  obtain ⟨c, ec⟩ := int_at (cs := cs) (r := ((j : Int) + 1) % 8) (Int.emod_nonneg _ (by decide)) (by rw [hc]; exact Int.emod_lt_of_pos _ (by decide))
  obtain ⟨p1, e1, hp1⟩ := pot_ok (c := c) (k := (j : Int) + 1) (by omega) (by omega)
  obtain ⟨q, p2, e2, q0, q1, hp2⟩ := take' (m := 3) hp1 (by decide) (by decide)
  obtain ⟨r, er⟩ : ∃ r : Int, atI [D.int 8, D.int 20, D.int 12] q = some (.int r) := by
    have h3 : q = 0 ∨ q = 1 ∨ q = 2 := by omega
    rcases h3 with rfl | rfl | rfl <;> exact ⟨_, rfl⟩
  obtain ⟨x, p3, r3, ms', e3, hp3, wx, n1, n2, t1, f1⟩ := inn_ok (x0 := some (.L (cs.map .int))) (x1 := x1) (x4 := some (.p (.lst (hs.map hdT)))) (x5 := x5) (x6 := x6) (x9 := some (.p (.int j))) (x11 := x11) (r := r) (acc := acc) hp2 hm hh hn ho hl
  refine ⟨x, p3, ms', ?_, wx, n1, n2, t1, f1⟩
  rw [← e_pot] at e1
  have z3 : (3 : Nat) ≤ sizeLine := by decide
  have e4 := fun a : Addr => unal_ok (hs := hs) (x0 := some (.L (cs.map .int))) (x1 := x1) (x2 := some (.L p3)) (x3 := some (.L (ns.map .str))) (x4 := some (.p (.lst (hs.map hdT)))) (x5 := x5) (x6 := x6) (x8 := some (.L ((acc ++ [x]).map embD))) (x9 := some (.p (.int j))) (x11 := some (.p (.tup (embRs x.rows)))) (x12 := some (.p (.str h.1))) (x13 := some (.p (.tup (h.2.map .str)))) (a := a) (r := r3) (ms := ms')
  unfold deedB
  simp only [ST] at e3 e4
  generalize innB = B at *
  generalize (acc ++ [x]).map embD = ax at *
  simp only [e_seq, e_set, e_fn, e_cons, e_f2, e_var, e_c, e_nil]
  simp [ec, e1]
  unfold sAlias
  simp [z3, e2, er]
  refine sAny_eq fun a => ?_
  simp [e3, e4]
theorem deeds_run {cs : List Int} {x1 x5 x6 : Option RV} (hc : cs.length = 8) (hh : HS hs) (hn : NS ns) : ∀ (l : List (Str × List Str)) (j : Nat) (p : List D) (ms : List Int) (acc : List DT) (x9 x10 x11 x12 x13 : Option RV), j + l.length ≤ 50 → acc.length ≤ 50 → MS ms → (∀ h ∈ l, okN h.1 ∧ WN 4 h.2 ∧ h.2.length ≤ 4) → acc.length + l.length ≤ 50 →
    ∃ (xs : List DT) (p' : List D) (ms' : List Int) (y9 y10 y11 y12 y13 : Option RV), forD (gPair (gName' 2 9) (gPair (gName' 2 12) (gName' 2 13))) deedB (enumD j (l.map hdT)) [some (.L (cs.map .int)), x1, some (.L p), some (.L (ns.map .str)), some (.p (.lst (hs.map hdT))), x5, x6, some (.L (ms.map .int)), some (.L (acc.map embD)), x9, x10, x11, x12, x13] =
      some (.nx, [some (.L (cs.map .int)), x1, some (.L p'), some (.L (ns.map .str)), some (.p (.lst (hs.map hdT))), x5, x6, some (.L (ms'.map .int)), some (.L ((acc ++ xs).map embD)), y9, y10, y11, y12, y13]) ∧ (∀ x ∈ xs, wfD x) ∧ xs.map (fun x => (x.nm, x.ps)) = l ∧ Took ms ms' (clsB xs) ∧ Fit hs (clsB xs)
  | [], j, p, ms, acc, x9, x10, x11, x12, x13, _, _, _, _, _ => ⟨[], p, ms, x9, x10, x11, x12, x13, by simp [forD, enumD], by simp, rfl, by simpa [clsB] using Took.nil, by simpa [clsB] using Fit.nil⟩
  | h :: l, j, p, ms, acc, x9, x10, x11, x12, x13, hj, ha, hm, ho, hz => by
    simp only [List.length_cons] at hj hz
    obtain ⟨x, p1, m1, e1, wx, n1, n2, t1, f1⟩ := deed_step (p := p) (acc := acc) (j := j) (x1 := x1) (x5 := x5) (x6 := x6) (x10 := x10) (x11 := x11) hc (by omega) hm hh hn (ho h (by simp)) (by omega)
    obtain ⟨xs, p', ms', y9, y10, y11, y12, y13, e2, w2, n3, t2, f2⟩ := deeds_run (x1 := x1) (x5 := x5) (x6 := x6) hc hh hn l (j + 1) p1 m1 (acc ++ [x]) (some (.p (.int j))) (some (.p .any)) (some (.p (.tup (embRs x.rows)))) (some (.p (.str h.1))) (some (.p (.tup (h.2.map .str)))) (by omega) (by simp; omega) (hm.took t1) (fun g hg => ho g (by simp [hg])) (by simp; omega)
    refine ⟨x :: xs, p', ms', y9, y10, y11, y12, y13, ?_, fun y hy => ?_, by rw [List.map_cons, n3, n1, n2], t1.trans t2, f1.app f2⟩
    · rw [List.append_assoc] at e2
      generalize deedB = B at *
      generalize (acc ++ [x]).map embD = ax at *
      simp only [List.cons_append, List.nil_append] at e2
      generalize (acc ++ x :: xs).map embD = ay at *
      simp [forD, enumD, hdT] at e1 e2 ⊢
      rw [e1]
      exact e2
    · rcases List.mem_cons.mp hy with rfl | hy
      · exact wx
      · exact w2 y hy
end
def mkM (f s : Int) (k : Nat) : Int := (f + s * (k : Int)) % 100
theorem mkM_fin : ∀ s ∈ [(1 : Int), 3, 7, 9, 51, 99], ∀ k l : Fin 10, (s * (k.val : Int) - s * (l.val : Int)) % 100 = 0 → k = l := by decide +kernel
theorem mkM_inj {f s : Int} {k l : Nat} (hs : s = 1 ∨ s = 3 ∨ s = 7 ∨ s = 9 ∨ s = 51 ∨ s = 99) (hk : k < 10) (hl : l < 10) (h : mkM f s k = mkM f s l) : k = l := by
  have h1 := Int.emod_eq_emod_iff_emod_sub_eq_zero.mp h
  rw [Int.add_sub_add_left] at h1
  have h2 : s ∈ [(1 : Int), 3, 7, 9, 51, 99] := by simpa using hs
  exact congrArg Fin.val (mkM_fin s h2 ⟨k, hk⟩ ⟨l, hl⟩ h1)
theorem compM {f s : Int} {x0 x1 x2 x3 x4 x7 x8 x9 x10 x11 x12 x13 : Option RV} (hs : 0 ≤ s ∧ s < 100) : ∀ (js : List Nat),
    compD fYes (f2 gMod (f2 gAdd (fVar 5) (f2 gMulS (fVar 6) (fVar 14))) (fC (.int 100))) 14 (js.map fun (j : Nat) => D.int j) [x0, x1, x2, x3, x4, some (.p (.int f)), some (.p (.int s)), x7, x8, x9, x10, x11, x12, x13] = some ((js.map (mkM f s)).map D.int, [x0, x1, x2, x3, x4, some (.p (.int f)), some (.p (.int s)), x7, x8, x9, x10, x11, x12, x13])
  | [] => by simp
  | j :: js => by
    have ih := compM (f := f) (x0 := x0) (x1 := x1) (x2 := x2) (x3 := x3) (x4 := x4) (x7 := x7) (x8 := x8) (x9 := x9) (x10 := x10) (x11 := x11) (x12 := x12) (x13 := x13) hs js
    have km : mulOk s (j : Int) = true := mul_small hs.1 (by omega)
    simp [km, ih, mkM]
structure Good (xs : List DT) : Prop where
  some : 0 < xs.length
  few : xs.length ≤ 8
  wf : ∀ x ∈ xs, wfD x
  nd : ∀ x ∈ xs, x.ps.Nodup
  names : (xs.map (·.nm)).Nodup
  fit : ∀ c ∈ clsB xs, ∃ x ∈ xs, x.nm = c.1 ∧ x.ps.length = c.2.1
  marks : ((clsB xs).map mrk).Nodup
set_option maxHeartbeats 0 in
theorem book_draw {cs : List Int} {most : Int} (hc : cs.length = 8) (h5 : most = 5 ∨ most = 8) : ∃ xs, FF_Lbook [.L (cs.map .int), .p (.int most)] = some (.L (xs.map embD), [.L (cs.map .int), .p (.int most)]) ∧ Good xs := by
  have hm0 : 0 < most := by omega
  have hm8 : most ≤ 8 := by omega
  clear h5
  obtain ⟨c, ec⟩ := int_at (cs := cs) (r := 0) (by decide) (by rw [hc]; decide)
  obtain ⟨p1, e1, hp1⟩ := pot_ok (c := c) (k := 0) (by decide) (by decide)
  rw [← e_pot] at e1
  obtain ⟨q, p2, e2, q0, q1, hp2⟩ := take' (m := 6) hp1 (by decide) (by decide)
  obtain ⟨ns, p3, e3, hp3, wn, l0, l1⟩ := names_nd (many := 1 + q) hp2 (by omega) (by omega)
  rw [← e_names] at e3
  obtain ⟨u, p4, e4, u0, u1, hp4⟩ := take' (m := most) hp3 hm0 (Int.lt_of_le_of_lt hm8 (by decide))
  obtain ⟨hs, p5, e5, hp5, hh⟩ := heads_ok (many := 1 + u) hp4 wn l1 (by omega) (by omega)
  obtain ⟨f, p6, e6, f0, f1, hp6⟩ := take' (m := 100) hp5 (by decide) (by decide)
  obtain ⟨v, p7, e7, v0, v1, hp7⟩ := take' (m := 6) hp6 (by decide) (by decide)
  obtain ⟨s, es, hs6⟩ : ∃ s : Int, atI [D.int 1, D.int 3, D.int 7, D.int 9, D.int 51, D.int 99] v = some (.int s) ∧ (s = 1 ∨ s = 3 ∨ s = 7 ∨ s = 9 ∨ s = 51 ∨ s = 99) := by
    have h6 : v = 0 ∨ v = 1 ∨ v = 2 ∨ v = 3 ∨ v = 4 ∨ v = 5 := by omega
    rcases h6 with rfl | rfl | rfl | rfl | rfl | rfl <;> exact ⟨_, rfl, by simp⟩
  obtain ⟨w, p8, e8, w0, w1, hp8⟩ := take' (m := 10) hp7 (by decide) (by decide)
  have hn : NS ns := ⟨wn, l0, l1⟩
  have e9 := compM (f := f) (s := s) (x0 := some (.L (cs.map .int))) (x1 := some (.p (.int most))) (x2 := some (.L p8)) (x3 := some (.L (ns.map .str))) (x4 := some (.p (.lst (hs.map hdT)))) (x7 := none) (x8 := none) (x9 := none) (x10 := none) (x11 := none) (x12 := none) (x13 := none) (by omega) (List.range (1 + w).toNat)
  have hr : ∀ j ∈ List.range (1 + w).toNat, j < 10 := fun j hj => by rw [List.mem_range] at hj; omega
  have hms : MS ((List.range (1 + w).toNat).map (mkM f s)) := ⟨fun m hm => by
    obtain ⟨j, _, rfl⟩ := List.mem_map.mp hm
    exact ⟨Int.emod_nonneg _ (by decide), Int.emod_lt_of_pos _ (by decide)⟩, by simp; omega⟩
  have hnd : ((List.range (1 + w).toNat).map (mkM f s)).Nodup := nodup_map List.nodup_range fun a ha b hb e => mkM_inj hs6 (hr a ha) (hr b hb) e
  have h8 := hh.2.2
  obtain ⟨xs, p9, ms', y9, y10, y11, y12, y13, e10, wx, nx, tk, ft⟩ := deeds_run (x1 := some (.p (.int most))) (x5 := some (.p (.int f))) (x6 := some (.p (.int s))) hc hh hn hs 0 p8 ((List.range (1 + w).toNat).map (mkM f s)) [] none none none none none (by omega) (by simp) hms hh.2.1 (by simp; omega)
  have lx : xs.length = hs.length := by rw [← nx]; simp
  refine ⟨xs, ?_, by omega, by omega, wx, fun x hx => ?_, ?_, fun cc hcc => ?_, ?_⟩
  · unfold FF_Lbook
    rw [book_eq]
    have z6 : (6 : Nat) ≤ sizeLine := by decide
    have hsl := sizeLine_eq
    have zr : (1 + w).toNat ≤ sizeLine := by omega
    have y1 : -(4611686018427387904) ≤ 1 + w := by omega
    have y2 : 1 + w < 4611686018427387904 := by omega
    generalize deedB = B at *
    generalize (List.range (1 + w).toNat).map (mkM f s) = mm at *
    simp only [List.map_nil, List.nil_append] at e10
    simp [ec, e1, e2, e3, e4, e5, e6, e7, z6, es, e8, fComp, fiRange1, y1, y2, e9, zr, sFor, fiEnum, itemsL, e10]
  · have : (x.nm, x.ps) ∈ hs := by rw [← nx]; exact List.mem_map_of_mem (f := fun x : DT => (x.nm, x.ps)) hx
    exact (hh.2.1 _ this).2.1.1
  · have : xs.map (·.nm) = hs.map (·.1) := by rw [← nx, List.map_map]; rfl
    rw [this]
    exact hh.1
  · obtain ⟨h, hm, g1, g2⟩ := ft cc hcc
    rw [← nx] at hm
    obtain ⟨x, hx, rfl⟩ := List.mem_map.mp hm
    exact ⟨x, hx, g1, g2⟩
  · unfold Took at tk
    rw [tk] at hnd
    exact (List.reverse_perm _).nodup_iff.mp (List.nodup_append.mp hnd).2.1
theorem drawn_book {ns : List Int} : ∃ xs, FF_Ldrawn_book [.p (.lst (ns.map D.int))] = some (.L (xs.map embD), [.p (.lst (ns.map D.int))]) ∧ Good xs := by
  obtain ⟨cs, e1, l1⟩ := folded_ok (ns := ns)
  obtain ⟨c, ec⟩ := int_at (cs := cs) (r := 1) (by decide) (by rw [l1]; decide)
  have z2 : (2 : Nat) ≤ sizeLine := by decide
  by_cases h3 : c % 8 = 3
  · obtain ⟨xs, e2, g⟩ := book_draw (cs := cs) (most := 8) l1 (.inr rfl)
    refine ⟨xs, ?_, g⟩
    have a1 : ∀ x y : D, atI [x, y] 1 = some y := fun _ _ => rfl
    simp [FF_Ldrawn_book, m_Ldrawn_book, e1, ec, h3, a1, e2]
  · obtain ⟨xs, e2, g⟩ := book_draw (cs := cs) (most := 5) l1 (.inl rfl)
    refine ⟨xs, ?_, g⟩
    have a0 : ∀ x y : D, atI [x, y] 0 = some x := fun _ _ => rfl
    simp [FF_Ldrawn_book, m_Ldrawn_book, e1, ec, h3, a0, e2]
end K08
namespace K08
open PySem PySem.Spec L2 L2.CF LL LR LS
def parts : RT → List (List RT)
  | .whn _ a b => [a, b]
  | .trn _ a => [a]
  | _ => []
def tupRs (rs : List RT) : D := .tup (embRs rs)
theorem i0 {x : D} {l : List D} : atI (x :: l) 0 = some x := (atN (l := x :: l) (k := 0) (by simp)).trans rfl
theorem sok' {s : String} : PyData.strOk (Str.ofString s) = true := sok_of
theorem parts_ok (r : RT) : FF_inner_parts [.p (embR r)] = some (.L ((parts r).map tupRs), [.p (embR r)]) := by
  have z1 : (1 : Nat) ≤ sizeLine := by decide
  have z2 : (2 : Nat) ≤ sizeLine := by decide
  have a2 : ∀ (x y z : D) (l : List D), atI (x :: y :: z :: l) 2 = some z := fun x y z l => (atN (l := x :: y :: z :: l) (k := 2) (by simp)).trans rfl
  have a3 : ∀ (x y z w : D) (l : List D), atI (x :: y :: z :: w :: l) 3 = some w := fun x y z w l => (atN (l := x :: y :: z :: w :: l) (k := 3) (by simp)).trans rfl
  cases r <;> simp [FF_inner_parts, m_inner_parts, embR, i0, a2, a3, sok', parts, z1, z2, tupRs]
theorem flat_parts (r : RT) : flatR r = r :: (parts r).flatMap flatRs := by cases r <;> simp [flatR, parts]
noncomputable def partB (F : FF) : FS := (sExpr (fLm gExtend (fVar 1) (fCons (fFn 1 F (fCons (fVar 3) (fNil))) (fNil))))
theorem part_run {F : FF} {x0 x2 : Option RV} : ∀ (ps : List (List RT)) (acc : List RT) (x3 : Option RV), (∀ q ∈ ps, F [.p (tupRs q)] = some (.L (embRs (flatRs q)), [.p (tupRs q)])) → acc.length + (ps.flatMap flatRs).length ≤ 10000 →
    ∃ y3, forD (gName' 1 3) (partB F) (ps.map tupRs) [x0, some (.L (embRs acc)), x2, x3] = some (.nx, [x0, some (.L (embRs (acc ++ ps.flatMap flatRs))), x2, y3])
  | [], acc, x3, _, _ => ⟨x3, by simp [forD]⟩
  | q :: ps, acc, x3, h, hz => by
    simp only [List.flatMap_cons, List.length_append] at hz
    obtain ⟨y3, e2⟩ := part_run (x0 := x0) (x2 := x2) ps (acc ++ flatRs q) (some (.p (tupRs q))) (fun q hq => h q (by simp [hq])) (by simp only [List.length_append]; omega)
    refine ⟨y3, ?_⟩
    have e1 := h q (by simp)
    have hsl := sizeLine_eq
    have hz' : (embRs acc).length + (embRs (flatRs q)).length ≤ sizeLine := by rw [embs_len, embs_len]; omega
    rw [List.append_assoc, embs_app acc (flatRs q)] at e2
    simp only [partB] at e2
    simp [forD, partB, e1, hz', e2]
noncomputable def readB (F : FF) : FS := (sSeq (sExpr (fLm gAppend (fVar 1) (fCons (fVar 2) (fNil)))) (sFor 1 (fiSeq (fFn 1 FF_inner_parts (fCons (fVar 2) (fNil)))) (gName' 1 3) (partB F)))
theorem read_eq (F : FF) : m_rows_and_inner F = sSeq (sSet 1 1 (fLst (fNil))) (sSeq (sFor 1 (fiSeq (fVar 0)) (gName' 1 2) (readB F)) (sRet 1 (fVar 1))) := rfl
theorem read_run {F : FF} {x0 : Option RV} : ∀ (rs : List RT) (acc : List RT) (x2 x3 : Option RV), (∀ r ∈ rs, ∀ q ∈ parts r, F [.p (tupRs q)] = some (.L (embRs (flatRs q)), [.p (tupRs q)])) → acc.length + (flatRs rs).length ≤ 10000 →
    ∃ y2 y3, forD (gName' 1 2) (readB F) (embRs rs) [x0, some (.L (embRs acc)), x2, x3] = some (.nx, [x0, some (.L (embRs (acc ++ flatRs rs))), y2, y3])
  | [], acc, x2, x3, _, _ => ⟨x2, x3, by simp [forD, embRs, flatRs]⟩
  | r :: rs, acc, x2, x3, h, hz => by
    simp only [flatRs, flat_parts r, List.length_append, List.length_cons] at hz
    obtain ⟨a3, e1⟩ := part_run (x0 := x0) (x2 := some (.p (embR r))) (parts r) (acc ++ [r]) x3 (h r (by simp)) (by simp only [List.length_append, List.length_singleton]; omega)
    obtain ⟨y2, y3, e2⟩ := read_run (x0 := x0) rs (acc ++ flatR r) (some (.p (embR r))) a3 (fun r hr => h r (by simp [hr])) (by rw [flat_parts r]; simp only [List.length_append, List.length_cons]; omega)
    refine ⟨y2, y3, ?_⟩
    have hsl := sizeLine_eq
    have hz' : (embRs acc).length < sizeLine := by rw [embs_len]; omega
    have e0 := parts_ok r
    have q1 : acc ++ [r] ++ (parts r).flatMap flatRs = acc ++ flatR r := by rw [flat_parts r]; simp
    rw [q1, embs_app acc [r]] at e1
    rw [List.append_assoc] at e2
    simp only [embRs, flatRs] at e1 ⊢
    unfold readB at *
    generalize partB F = B at *
    simp [forD, hz', sFor, fiSeq, e0, items, itemsL, e1]
    exact e2
theorem flat_ok : ∀ (d : Nat), d ≤ 3 → ∀ (n : Nat) (rs : List RT), d < n → rs.length ≤ lenB d → (∀ r ∈ rs, wfR d r) → FF_rows_and_inner n [.p (tupRs rs)] = some (.L (embRs (flatRs rs)), [.p (tupRs rs)])
  | 0, _, n + 1, rs, _, hl, h => by
    have : rs = [] := by cases rs with | nil => rfl | cons r rs => exact (h r (by simp)).elim
    subst this
    show runBody 4 (m_rows_and_inner (FF_rows_and_inner n)) _ = _
    rw [read_eq]
    simp [sFor, fiSeq, items, itemsL, itemsT, tupRs, embRs, forD, flatRs]
  | d + 1, hd, n + 1, rs, hn, hl, h => by
    have hf := flats_len rs h
    have hb : rs.length * fl (d + 1) ≤ 1000 := by
      match d, hd with
      | 0, _ => simp [lenB, fl] at hl ⊢; omega
      | 1, _ => simp [lenB, fl] at hl ⊢; omega
      | 2, _ => simp [lenB, fl] at hl ⊢; omega
    obtain ⟨y2, y3, e1⟩ := read_run (F := FF_rows_and_inner n) (x0 := some (.p (tupRs rs))) rs [] none none (fun r hr q hq => by
      have hw := h r hr
      cases r with
      | whn e a b =>
        obtain ⟨h0, _, h1, h2, h3, h4⟩ := hw
        simp [parts] at hq
        rcases hq with rfl | rfl
        · exact flat_ok d (by omega) n _ (by omega) h1 h3
        · exact flat_ok d (by omega) n _ (by omega) h2 h4
      | trn e a =>
        obtain ⟨h0, _, h1, h3⟩ := hw
        simp [parts] at hq
        subst hq
        exact flat_ok d (by omega) n _ (by omega) h1 h3
      | _ => simp [parts] at hq) (by simp; omega)
    show runBody 4 (m_rows_and_inner (FF_rows_and_inner n)) _ = _
    rw [read_eq]
    simp only [embRs, List.nil_append] at e1
    unfold tupRs at *
    generalize readB (FF_rows_and_inner n) = B at *
    simp [sFor, fiSeq, items, itemsL, itemsT, e1]
theorem d2 {x y z w : D} : atI [x, y, z, w] 2 = some z := rfl
theorem rows_of_ok {x : DT} (h : wfD x) : FF_rows_of [.p (embD x)] = some (.L (embRs (flatRs x.rows)), [.p (embD x)]) := by
  have e := flat_ok 3 (Nat.le_refl _) 6 x.rows (by decide) h.rows.1 h.rows.2
  unfold tupRs at e
  simp [FF_rows_of, m_rows_of, embD, d2, e]
theorem comp_calls {x0 : Option RV} : ∀ (rs : List RT), compD (fT (f2 gEq (f2 gIx (fVar 1) (fC (.int 0))) (fC (.str "call")))) (fVar 1) 1 (embRs rs) [x0] = some (embRs (rs.filter isC), [x0])
  | [] => by simp [embRs]
  | r :: rs => by
    have ih := comp_calls (x0 := x0) rs
    cases r <;> simp [embRs, embR, i0, sok', isC, ih, List.filter]
theorem call_rows_ok {x : DT} (h : wfD x) : FF_call_rows [.p (embD x)] = some (.L (embRs ((flatRs x.rows).filter isC)), [.p (embD x)]) := by
  have e := rows_of_ok h
  have c := comp_calls (x0 := some (.p (embD x))) (flatRs x.rows)
  have hf := flats_len x.rows h.rows.2
  have h5 := h.rows.1
  have hb : x.rows.length * fl 3 ≤ 5 * fl 3 := Nat.mul_le_mul_right _ h5
  have hb2 : 5 * fl 3 = 155 := rfl
  have hsl := sizeLine_eq
  have hz : (embRs (flatRs x.rows)).length ≤ sizeLine := by rw [embs_len]; omega
  simp [FF_call_rows, m_call_rows, fComp, fiSeq, items, itemsL, e, c, hz]
end K08
namespace K08
open PySem PySem.Spec L2 L2.CF LL LR LS
def seenK (ns : List Str) : List (Key × D) := ns.map fun n => (.inr n, .bl true)
theorem seenK_keys (ns : List Str) : (seenK ns).map (·.1) = ns.map Sum.inr := by simp [seenK]
theorem seenK_not {ns : List Str} {n : Str} (h : n ∉ ns) : (Sum.inr n : Key) ∉ (seenK ns).map (·.1) := by
  rw [seenK_keys]
  intro q
  obtain ⟨m, hm, e⟩ := List.mem_map.mp q
  cases e
  exact h hm
theorem d0 {x y z w : D} : atI [x, y, z, w] 0 = some x := rfl
theorem d1 {x y z w : D} : atI [x, y, z, w] 1 = some y := rfl
noncomputable def likeB : FS := (sSeq (sSet 1 3 (f2 gIx (fVar 2) (fC (.int 0)))) (sSeq (sSet 1 4 (f2 gIx (fVar 2) (fC (.int 1)))) (sSeq (sIf (fT (f2 (gInK false) (fVar 3) (fVar 1))) ((fun _ => none)) (sNext)) (sSeq (sIf (fT (f2 gLt (fLenSet (fVar 4)) (fCall gLen (fCons (fVar 4) (fNil))))) ((fun _ => none)) (sNext)) (sPutK (fVar 1) (fVar 3) (fC (.bl true)))))))
theorem like_run {x0 : Option RV} : ∀ (xs : List DT) (seen : List Str) (x2 x3 x4 : Option RV), (∀ x ∈ xs, wfD x) → (∀ x ∈ xs, x.ps.Nodup) → (seen ++ xs.map (·.nm)).Nodup → seen.length + xs.length ≤ 1000 →
    (∀ r, x3 = some r → ownd r = false) → (∀ r, x4 = some r → ownd r = false) →
    ∃ y1 y2 y3 y4, forD (gName' 1 2) likeB (xs.map embD) [x0, some (.K (seenK seen)), x2, x3, x4] = some (.nx, [x0, y1, y2, y3, y4])
  | [], seen, x2, x3, x4, _, _, _, _, _, _ => ⟨_, x2, x3, x4, rfl⟩
  | x :: xs, seen, x2, x3, x4, hw, hn, nd, hz, o3, o4 => by
    have hx := hw x (by simp)
    have nd1 := hn x (by simp)
    simp only [List.map_cons, List.length_cons] at nd hz
    have q1 : seen ++ x.nm :: xs.map (·.nm) = (seen ++ [x.nm]) ++ xs.map (·.nm) := by simp
    rw [q1] at nd
    have hns : x.nm ∉ seen := fun h => (List.nodup_append.mp (List.nodup_append.mp nd).1).2.2 _ h _ (by simp) rfl
    obtain ⟨y1, y2, y3, y4, e2⟩ := like_run (x0 := x0) xs (seen ++ [x.nm]) (some (.p (embD x))) (some (.p (.str x.nm))) (some (.p (.tup (x.ps.map .str)))) (fun y hy => hw y (by simp [hy])) (fun y hy => hn y (by simp [hy])) nd (by simp; omega) (fun r e => by cases e; rfl) (fun r e => by cases e; rfl)
    refine ⟨y1, y2, y3, y4, ?_⟩
    have v1 := valK_none (seenK_not hns)
    have p1 := putD_new (v := .bl true) (seenK_not hns)
    have e3 : seenK seen ++ [(Sum.inr x.nm, D.bl true)] = seenK (seen ++ [x.nm]) := by simp [seenK]
    rw [e3] at p1
    have lk : (seenK seen).length < 100000 := by simp [seenK]; omega
    have h4 := hx.ps.1
    have l60 : x.ps.length < 60 := by omega
    have dl : (ded x.ps).length = x.ps.length := by rw [ded_nodup nd1]
    simp only [likeB] at e2
    simp [forD, likeB, embD, d0, d1, v1, l60, dl, p1, lk]
    simpa [embD] using e2
theorem like_ok {xs : List DT} (g : Good xs) : FF_refuse_like_names [.p (bookD xs)] = some (.p .non, [.p (bookD xs)]) := by
  have h8 := g.few
  obtain ⟨y1, y2, y3, y4, e⟩ := like_run (x0 := some (.p (bookD xs))) xs [] none none none g.wf g.nd (by simpa using g.names) (by simp; omega) nofun nofun
  simp only [likeB, seenK, List.map_nil, bookD] at e
  simp [FF_refuse_like_names, m_refuse_like_names, sFor, fiSeq, items, itemsL, itemsT, bookD, e]
def cntK (xs : List DT) : List (Key × D) := xs.map fun x => (.inr x.nm, .int x.ps.length)
theorem cntK_keys (xs : List DT) : (cntK xs).map (·.1) = (xs.map (·.nm)).map Sum.inr := by simp [cntK]
theorem nd_inr {l : List Str} (h : l.Nodup) : (l.map (Sum.inr : Str → Key)).Nodup := nodup_map h fun a _ b _ e => by cases e; rfl
noncomputable def cntB : FS := (sPutK (fVar 1) (f2 gIx (fVar 2) (fC (.int 0))) (fCall gLen (fCons (f2 gIx (fVar 2) (fC (.int 1))) (fNil))))
theorem cnt_run {x0 x3 x4 : Option RV} : ∀ (xs acc : List DT) (x2 : Option RV), ((acc ++ xs).map (·.nm)).Nodup → acc.length + xs.length ≤ 1000 →
    ∃ y2, forD (gName' 1 2) cntB (xs.map embD) [x0, some (.K (cntK acc)), x2, x3, x4] = some (.nx, [x0, some (.K (cntK (acc ++ xs))), y2, x3, x4])
  | [], acc, x2, _, _ => ⟨x2, by simp [forD]⟩
  | x :: xs, acc, x2, nd, hz => by
    simp only [List.length_cons] at hz
    have q1 : acc ++ x :: xs = (acc ++ [x]) ++ xs := by simp
    rw [q1] at nd ⊢
    have hns : (Sum.inr x.nm : Key) ∉ (cntK acc).map (·.1) := by
      rw [cntK_keys]
      intro q
      obtain ⟨m, hm, e⟩ := List.mem_map.mp q
      cases e
      rw [List.map_append, List.map_append] at nd
      exact (List.nodup_append.mp (List.nodup_append.mp nd).1).2.2 _ hm _ (by simp) rfl
    obtain ⟨y2, e2⟩ := cnt_run (x0 := x0) (x3 := x3) (x4 := x4) xs (acc ++ [x]) (some (.p (embD x))) nd (by simp; omega)
    refine ⟨y2, ?_⟩
    have p1 := putD_new (v := .int x.ps.length) hns
    have e3 : cntK acc ++ [(Sum.inr x.nm, D.int x.ps.length)] = cntK (acc ++ [x]) := by simp [cntK]
    rw [e3] at p1
    have lk : (cntK acc).length < 100000 := by simp [cntK]; omega
    simp only [cntB] at e2
    simp [forD, cntB, embD, d0, d1, p1, lk]
    simpa [embD] using e2
def markK (ms : List Int) : List (Key × D) := ms.map fun m => (.inl m, .bl true)
theorem markK_not {ms : List Int} {m : Int} (h : m ∉ ms) : (Sum.inl m : Key) ∉ (markK ms).map (·.1) := by
  simp only [markK, List.map_map]
  intro q
  obtain ⟨k, hk, e⟩ := List.mem_map.mp q
  cases e
  exact h hk
theorem c2 {x y z w u : D} : atI [x, y, z, w, u] 2 = some z := rfl
theorem c3 {x y z w u : D} : atI [x, y, z, w, u] 3 = some w := rfl
theorem c4 {x y z w u : D} : atI [x, y, z, w, u] 4 = some u := rfl
theorem wrong_ok {xs : List DT} {ms : List Int} {h w : Str} {as : List ET} {m : Int} (g : Good xs) (hf : ∃ x ∈ xs, x.nm = w ∧ x.ps.length = as.length) (hm : m ∉ ms) :
    FF_refuse_wrong_call [.p (embR (.call h w as m)), .K (cntK xs), .K (markK ms)] = some (.p .non, [.p (embR (.call h w as m)), .K (cntK xs), .K (markK ms)]) := by
  obtain ⟨x, hx, rfl, hl⟩ := hf
  have v1 : valK (cntK xs) (.inr x.nm) = some (.int x.ps.length) := valK_in (by rw [cntK_keys]; exact nd_inr g.names) (List.mem_map_of_mem (f := fun x : DT => ((.inr x.nm : Key), D.int x.ps.length)) hx)
  have v2 := valK_none (markK_not hm)
  simp [FF_refuse_wrong_call, m_refuse_wrong_call, embR, c2, c3, c4, v1, v2, hl]
noncomputable def wrongB : FS := (sSeq (sExpr (fFn 3 FF_refuse_wrong_call (fCons (fVar 4) (fCons (fVar 1) (fCons (fVar 3) (fNil)))))) (sPutK (fVar 3) (f2 gIx (fVar 4) (fC (.int 4))) (fC (.bl true))))
theorem wrong_run {xs : List DT} (g : Good xs) {x0 x2 : Option RV} : ∀ (rs : List RT) (ms : List Int) (x4 : Option RV), (∀ r ∈ rs, isC r = true) → (∀ c ∈ rs.map cOf, ∃ x ∈ xs, x.nm = c.1 ∧ x.ps.length = c.2.1) → (ms ++ (rs.map cOf).map mrk).Nodup → ms.length + rs.length ≤ 2000 →
    ∃ y4, forD (gName' 1 4) wrongB (embRs rs) [x0, some (.K (cntK xs)), x2, some (.K (markK ms)), x4] = some (.nx, [x0, some (.K (cntK xs)), x2, some (.K (markK (ms ++ (rs.map cOf).map mrk))), y4])
  | [], ms, x4, _, _, _, _ => ⟨x4, by simp [forD, embRs]⟩
  | r :: rs, ms, x4, hc, hf, nd, hz => by
    cases r with
    | call h w as m =>
      simp only [List.map_cons, List.length_cons, cOf, mrk] at nd hz hf ⊢
      have q1 : ms ++ m :: (rs.map cOf).map mrk = (ms ++ [m]) ++ (rs.map cOf).map mrk := by simp
      rw [q1] at nd ⊢
      have hm : m ∉ ms := fun z => (List.nodup_append.mp (List.nodup_append.mp nd).1).2.2 _ z _ (by simp) rfl
      obtain ⟨y4, e2⟩ := wrong_run g (x0 := x0) (x2 := x2) rs (ms ++ [m]) (some (.p (embR (.call h w as m)))) (fun r hr => hc r (by simp [hr])) (fun c hc => hf c (by simp [hc])) nd (by simp; omega)
      refine ⟨y4, ?_⟩
      have e1 := wrong_ok (h := h) (ms := ms) g (hf (w, as.length, m) (by simp)) hm
      have p1 := putD_new (v := .bl true) (markK_not hm)
      have e3 : markK ms ++ [(Sum.inl m, D.bl true)] = markK (ms ++ [m]) := by simp [markK]
      rw [e3] at p1
      have lk : (markK ms).length < 100000 := by simp [markK]; omega
      simp only [wrongB, embR] at e1 e2
      simp [forD, wrongB, embRs, embR, c4, e1, p1, lk, e2]
    | _ => exact nomatch (hc _ List.mem_cons_self)
noncomputable def callsB : FS := (sFor 1 (fiSeq (fFn 1 FF_call_rows (fCons (fVar 2) (fNil)))) (gName' 1 4) wrongB)
theorem calls_run {xs : List DT} (g : Good xs) {x0 : Option RV} : ∀ (ys : List DT) (ms : List Int) (x2 x4 : Option RV), (∀ y ∈ ys, wfD y) → (∀ c ∈ clsB ys, ∃ x ∈ xs, x.nm = c.1 ∧ x.ps.length = c.2.1) → (ms ++ (clsB ys).map mrk).Nodup → ms.length + ys.length * 155 ≤ 2000 →
    ∃ y2 y3 y4, forD (gName' 1 2) callsB (ys.map embD) [x0, some (.K (cntK xs)), x2, some (.K (markK ms)), x4] = some (.nx, [x0, some (.K (cntK xs)), y2, y3, y4])
  | [], ms, x2, x4, _, _, _, _ => ⟨x2, _, x4, rfl⟩
  | y :: ys, ms, x2, x4, hw, hf, nd, hz => by
    have hy := hw y (by simp)
    have e0 := call_rows_ok hy
    simp only [clsB, List.length_cons, List.map_append] at nd hz hf
    have q1 : ms ++ ((clsRs y.rows).map mrk ++ (clsB ys).map mrk) = (ms ++ (clsRs y.rows).map mrk) ++ (clsB ys).map mrk := by simp
    rw [q1] at nd
    have fc := flats_cls y.rows
    have hlen := flats_len y.rows hy.rows.2
    have h5 := hy.rows.1
    have hb : y.rows.length * fl 3 ≤ 5 * fl 3 := Nat.mul_le_mul_right _ h5
    have hb2 : 5 * fl 3 = 155 := rfl
    have hfl := List.length_filter_le isC (flatRs y.rows)
    have hcl : (clsRs y.rows).length ≤ 155 := by rw [← fc]; simp; omega
    obtain ⟨a4, e1⟩ := wrong_run g (x0 := x0) (x2 := some (.p (embD y))) ((flatRs y.rows).filter isC) ms x4 (fun r hr => (List.mem_filter.mp hr).2) (by rw [fc]; exact fun c hc => hf c (by simp [hc])) (by rw [fc]; exact (List.nodup_append.mp nd).1) (by omega)
    rw [fc] at e1
    obtain ⟨y2, y3, y4, e2⟩ := calls_run g (x0 := x0) ys (ms ++ (clsRs y.rows).map mrk) (some (.p (embD y))) a4 (fun z hz => hw z (by simp [hz])) (fun c hc => hf c (by simp [hc])) nd (by simp; omega)
    refine ⟨y2, y3, y4, ?_⟩
    unfold callsB at *
    generalize wrongB = B at *
    simp [forD, sFor, fiSeq, e0, items, itemsL, e1]
    simpa [sFor, fiSeq] using e2
theorem calls_ok {xs : List DT} (g : Good xs) : FF_refuse_wrong_calls [.p (bookD xs)] = some (.p .non, [.p (bookD xs)]) := by
  have h8 := g.few
  obtain ⟨a2, e1⟩ := cnt_run (x0 := some (.p (bookD xs))) (x3 := none) (x4 := none) xs [] none (by simpa using g.names) (by simp; omega)
  obtain ⟨y2, y3, y4, e2⟩ := calls_run g (x0 := some (.p (bookD xs))) xs [] a2 none g.wf g.fit (by simpa using g.marks) (by simp; omega)
  have q : m_refuse_wrong_calls = sSeq (sSet 1 1 (fDict0)) (sSeq (sFor 1 (fiSeq (fVar 0)) (gName' 1 2) cntB) (sSeq (sSet 1 3 (fDict0)) (sFor 1 (fiSeq (fVar 0)) (gName' 1 2) callsB))) := rfl
  unfold FF_refuse_wrong_calls
  rw [q]
  simp only [cntK, markK, List.map_nil, List.nil_append] at e1 e2
  unfold bookD at *
  generalize cntB = B1 at *
  generalize callsB = B2 at *
  simp [sFor, fiSeq, items, itemsL, itemsT, e1, e2]
theorem made_ok {xs : List DT} (g : Good xs) : FF_made_book [.L (xs.map embD)] = some (.p (bookD xs), [.L (xs.map embD)]) := by
  have e1 := like_ok g
  have e2 := calls_ok g
  have q : D.tup (xs.map embD) = bookD xs := rfl
  simp [FF_made_book, m_made_book, q, e1, e2]
end K08
namespace K08
open PySem PySem.Spec L2 L2.CF LL LR LS
theorem flats_app : ∀ (a b : List RT), flatRs (a ++ b) = flatRs a ++ flatRs b
  | [], _ => rfl
  | r :: a, b => by simp only [List.cons_append, flatRs, flats_app a b, List.append_assoc]
theorem flats_flat : ∀ (ps : List (List RT)), flatRs ps.flatten = ps.flatMap flatRs
  | [] => rfl
  | p :: ps => by simp only [List.flatten_cons, flats_app, List.flatMap_cons, flats_flat ps]
theorem flat_next (r : RT) (rest : List RT) : flatRs (r :: rest) = r :: flatRs ((parts r).flatten ++ rest) := by
  rw [flats_app, flats_flat]
  simp only [flatRs, flat_parts r, List.cons_append]
theorem flat_big : ∀ (rs : List RT), rs.length ≤ (flatRs rs).length
  | [] => by simp [flatRs]
  | r :: rs => by
    have := flat_big rs
    simp only [flatRs, flat_parts r, List.length_append, List.length_cons]
    omega
noncomputable def thT : FT := (fT (f2 gNe (fVar 1) (fLst (fNil))))
noncomputable def thB : FS := (sSeq (sSet 1 3 (fLm gPop (fVar 1) fNil)) (sSeq (sExpr (fLm gAppend (fVar 2) (fCons (fVar 3) (fNil)))) (sIf (fT (f2 gEq (f2 gIx (fVar 3) (fC (.int 0))) (fC (.str "when")))) (sExpr (fLm gExtT (fVar 1) (fCons (fRevT (f2 gCatT (f2 gIx (fVar 3) (fC (.int 2))) (f2 gIx (fVar 3) (fC (.int 3)))) (f1 gNeg (fC (.int 1)))) (fNil)))) (sIf (fT (f2 gEq (f2 gIx (fVar 3) (fC (.int 0))) (fC (.str "turn")))) (sExpr (fLm gExtT (fVar 1) (fCons (fRevT (f2 gIx (fVar 3) (fC (.int 2))) (f1 gNeg (fC (.int 1)))) (fNil)))) (sNext)))))
theorem th_eq : m_Lread_through = sSeq (sSet 1 1 (fRev (fCall gListOf (fCons (fVar 0) (fNil))) (f1 gNeg (fC (.int 1))))) (sSeq (sSet 1 2 (fLst (fNil))) (sSeq (sWhile 200 thT thB) (sRet 1 (fVar 2)))) := rfl
theorem ok_rev {rs : List RT} (h : ∀ r ∈ rs, okR r) : okD (.lst (embRs rs).reverse) = true := by
  have : (embRs rs).reverse = embRs rs.reverse := by rw [embs_map, embs_map, List.map_reverse]
  rw [this]
  exact ok_rows fun r hr => h r (List.mem_reverse.mp hr)
theorem thT_ok {rs : List RT} {x0 x2 x3 : Option RV} (h : ∀ r ∈ rs, okR r) : thT [x0, some (.L (embRs rs).reverse), x2, x3] = some (!rs.isEmpty, [x0, some (.L (embRs rs).reverse), x2, x3]) := by
  have o := ok_rev h
  have e : (embRs rs).reverse.isEmpty = rs.isEmpty := by
    rw [embs_map]
    cases rs <;> simp
  generalize (embRs rs).reverse = L at *
  simp [thT, o, ok_nil, eq_nil, e]
theorem th_step {r : RT} {rest acc : List RT} {x0 x3 : Option RV} (hz : (flatRs (r :: rest)).length ≤ 1000) (ha : acc.length ≤ 1000) (o3 : ∀ q, x3 = some q → ownd q = false) :
    thB [x0, some (.L (embRs (r :: rest)).reverse), some (.L (embRs acc)), x3] = some (.nx, [x0, some (.L (embRs ((parts r).flatten ++ rest)).reverse), some (.L (embRs (acc ++ [r]))), some (.p (embR r))]) := by
  have hsl := sizeLine_eq
  have h1 := flat_big ((parts r).flatten ++ rest)
  rw [flat_next] at hz
  simp only [List.length_cons] at hz
  have h2 : (parts r).flatten.length + rest.length ≤ 1000 := by rw [List.length_append] at h1; omega
  have za : (embRs acc).length < sizeLine := by rw [embs_len]; omega
  have a2 : ∀ (x y z : D) (l : List D), atI (x :: y :: z :: l) 2 = some z := fun x y z l => (atN (l := x :: y :: z :: l) (k := 2) (by simp)).trans rfl
  have a3 : ∀ (x y z w : D) (l : List D), atI (x :: y :: z :: w :: l) 3 = some w := fun x y z w l => (atN (l := x :: y :: z :: w :: l) (k := 3) (by simp)).trans rfl
  cases r with
  | whn e a b =>
    simp only [parts, List.flatten_cons, List.flatten_nil, List.length_append, List.length_nil] at h2
    have z1 : (embRs a).length + (embRs b).length ≤ sizeLine := by rw [embs_len, embs_len]; omega
    have z2 : (embRs rest).length + ((embRs b).length + (embRs a).length) ≤ sizeLine := by rw [embs_len, embs_len, embs_len]; omega
    simp [thB, embRs, embR, i0, a2, a3, sok', za, z1, z2, itemsT, parts, embs_app]
  | trn e a =>
    simp only [parts, List.flatten_cons, List.flatten_nil, List.length_append, List.length_nil] at h2
    have z2 : (embRs rest).length + (embRs a).length ≤ sizeLine := by rw [embs_len, embs_len]; omega
    simp [thB, embRs, embR, i0, a2, a3, sok', za, z2, itemsT, parts, embs_app]
  | _ => simp [thB, embRs, embR, i0, sok', za, parts, embs_app]
theorem okR_parts {r : RT} (h : okR r) : ∀ q ∈ (parts r).flatten, okR q := by
  obtain ⟨d, hd, w⟩ := h
  cases r with
  | whn e a b =>
    cases d with
    | zero => exact w.elim
    | succ d =>
      obtain ⟨_, _, _, _, h3, h4⟩ := w
      intro q hq
      simp [parts] at hq
      rcases hq with hq | hq
      · exact ⟨d, by omega, h3 q hq⟩
      · exact ⟨d, by omega, h4 q hq⟩
  | trn e a =>
    cases d with
    | zero => exact w.elim
    | succ d =>
      obtain ⟨_, _, _, h3⟩ := w
      intro q hq
      simp [parts] at hq
      exact ⟨d, by omega, h3 q hq⟩
  | _ => intro q hq; simp [parts] at hq
theorem th_run {x0 : Option RV} : ∀ (n : Nat) (stk acc : List RT) (x3 : Option RV), (flatRs stk).length < n → (flatRs stk).length ≤ 500 → acc.length + (flatRs stk).length ≤ 1000 → (∀ r ∈ stk, okR r) → (∀ q, x3 = some q → ownd q = false) →
    ∃ y3, whileD thT thB n [x0, some (.L (embRs stk).reverse), some (.L (embRs acc)), x3] = some (.nx, [x0, some (.L []), some (.L (embRs (acc ++ flatRs stk))), y3])
  | 0, stk, acc, x3, h, _, _, _, _ => by omega
  | n + 1, [], acc, x3, h, _, _, ho, o3 => by
    have e := thT_ok (x0 := x0) (x2 := some (.L (embRs acc))) (x3 := x3) ho
    refine ⟨x3, ?_⟩
    unfold whileD
    rw [e]
    simp [flatRs, embRs]
  | n + 1, r :: rest, acc, x3, h, h5, hz, ho, o3 => by
    have e := thT_ok (x0 := x0) (x2 := some (.L (embRs acc))) (x3 := x3) ho
    have s := th_step (x0 := x0) (r := r) (rest := rest) (acc := acc) (x3 := x3) (by omega) (by omega) o3
    have hn := flat_next r rest
    rw [hn, List.length_cons] at h hz h5
    obtain ⟨y3, e2⟩ := th_run (x0 := x0) n ((parts r).flatten ++ rest) (acc ++ [r]) (some (.p (embR r))) (by omega) (by omega) (by simp; omega) (fun q hq => by
      rcases List.mem_append.mp hq with hq | hq
      · exact okR_parts (ho r (by simp)) q hq
      · exact ho q (by simp [hq])) (fun q e => by cases e; rfl)
    refine ⟨y3, ?_⟩
    unfold whileD
    rw [e]
    simp only [List.isEmpty_cons, Bool.not_false, Option.bind_some, if_true, s]
    rw [e2, hn]
    simp
theorem through_ok {rs : List RT} (hl : rs.length ≤ 5) (h : ∀ r ∈ rs, wfR 3 r) : FF_Lread_through [.p (tupRs rs)] = some (.L (embRs (flatRs rs)), [.p (tupRs rs)]) := by
  have hf := flats_len rs h
  have hb : rs.length * fl 3 ≤ 5 * fl 3 := Nat.mul_le_mul_right _ hl
  have hb2 : 5 * fl 3 = 155 := rfl
  obtain ⟨y3, e⟩ := th_run (x0 := some (.p (tupRs rs))) 200 rs [] none (by omega) (by omega) (by simp; omega) (fun r hr => ⟨3, Nat.le_refl _, h r hr⟩) nofun
  unfold FF_Lread_through
  rw [th_eq]
  simp only [embRs, List.nil_append] at e
  unfold tupRs at *
  have w : ∀ ρ, sWhile 200 thT thB ρ = whileD thT thB 200 ρ := fun _ => rfl
  generalize thT = T at *
  generalize thB = B at *
  simp [gListOf, items, itemsL, itemsT, w, e]
end K08
namespace K08
open PySem PySem.Spec L2 L2.CF LL LR LS
theorem comp_mc1 {x0 : Option RV} : ∀ (rs : List RT), (∀ r ∈ rs, isC r = true) → compD fYes (fTupF 1 (fCons (f2 gIx (fVar 1) (fC (.int 4))) (fCons (f2 gIx (fVar 1) (fC (.int 2))) (fNil)))) 1 (embRs rs) [x0] = some ((rs.map cOf).map mcD, [x0])
  | [], _ => by simp [embRs]
  | r :: rs, h => by
    have ih := comp_mc1 (x0 := x0) rs fun q hq => h q (by simp [hq])
    have z2 : (2 : Nat) ≤ sizeLine := by decide
    cases r with
    | call a b as m => simp [embRs, embR, c2, c4, z2, ih, cOf, mcD]
    | _ => exact nomatch (h _ List.mem_cons_self)
theorem calls_of_ok {x : DT} (h : wfD x) : FF_calls_of [.p (embD x)] = some (.L ((clsRs x.rows).map mcD), [.p (embD x)]) := by
  have e := call_rows_ok h
  have c := comp_mc1 (x0 := some (.p (embD x))) ((flatRs x.rows).filter isC) fun r hr => (List.mem_filter.mp hr).2
  rw [flats_cls] at c
  have hf := flats_len x.rows h.rows.2
  have h5 := h.rows.1
  have hb : x.rows.length * fl 3 ≤ 5 * fl 3 := Nat.mul_le_mul_right _ h5
  have hb2 : 5 * fl 3 = 155 := rfl
  have hsl := sizeLine_eq
  have hfl := List.length_filter_le isC (flatRs x.rows)
  have hz : (embRs ((flatRs x.rows).filter isC)).length ≤ sizeLine := by rw [embs_len]; omega
  simp [FF_calls_of, m_calls_of, fComp, fiSeq, items, itemsL, e, c, hz]
theorem comp_mc2 {x0 x1 x2 x3 x4 x5 x6 : Option RV} : ∀ (rs : List RT), compD (fT (f2 gEq (f2 gIx (fVar 7) (fC (.int 0))) (fC (.str "call")))) (fTupF 1 (fCons (f2 gIx (fVar 7) (fC (.int 4))) (fCons (f2 gIx (fVar 7) (fC (.int 2))) (fNil)))) 7 (embRs rs) [x0, x1, x2, x3, x4, x5, x6] = some (((rs.filter isC).map cOf).map mcD, [x0, x1, x2, x3, x4, x5, x6])
  | [] => by simp [embRs]
  | r :: rs => by
    have ih := comp_mc2 (x0 := x0) (x1 := x1) (x2 := x2) (x3 := x3) (x4 := x4) (x5 := x5) (x6 := x6) rs
    have z2 : (2 : Nat) ≤ sizeLine := by decide
    cases r <;> simp [embRs, embR, i0, c2, c4, sok', z2, isC, ih, List.filter, cOf, mcD]
noncomputable def lawB : FS := (sSeq (sSet 1 3 (fFn 1 FF_Lread_through (fCons (f2 gIx (fVar 2) (fC (.int 2))) (fNil)))) (sSeq (sSet 1 4 (fComp (fiSeq (fVar 3)) (fT (f2 gEq (f2 gIx (fVar 7) (fC (.int 0))) (fC (.str "call")))) (fTupF 1 (fCons (f2 gIx (fVar 7) (fC (.int 4))) (fCons (f2 gIx (fVar 7) (fC (.int 2))) (fNil)))))) (sSeq (sSet 1 5 (fFn 1 FF_rows_of (fCons (fVar 2) (fNil)))) (sSeq (sSet 1 6 (fFn 1 FF_calls_of (fCons (fVar 2) (fNil)))) (sSeq (sIf (fOr (fNot (fT (fIsi "list" (fVar 5)))) (fOr (fT (f2 gNe (fVar 5) (fVar 3))) (fOr (fNot (fT (fIsi "list" (fVar 6)))) (fT (f2 gNe (fVar 6) (fVar 4)))))) (sRet 1 (fC (.bl false))) (sNext)) (sSeq (sExpr (fLm gAppend (fVar 5) (fCons (fTupF 1 (fCons (fC (.str "say")) (fCons (fTupF 1 (fCons (fC (.str "number")) (fCons (fC (.int 0)) (fNil)))) (fNil)))) (fNil)))) (sSeq (sExpr (fLm gReverse (fVar 6) fNil)) (sSeq (sExpr (fLm gAppend (fVar 6) (fCons (fC .non) (fNil)))) (sIf (fOr (fT (f2 gNe (fFn 1 FF_rows_of (fCons (fVar 2) (fNil))) (fVar 3))) (fT (f2 gNe (fFn 1 FF_calls_of (fCons (fVar 2) (fNil))) (fVar 4)))) (sRet 1 (fC (.bl false))) (sNext))))))))))
theorem law_eq : m_law = sSeq (sSet 1 1 (fFn 1 FF_made_book (fCons (fFn 1 FF_Ldrawn_book (fCons (fVar 0) (fNil))) (fNil)))) (sSeq (sFor 1 (fiSeq (fVar 1)) (gName' 1 2) lawB) (sRet 1 (fC (.bl true)))) := rfl
theorem law_step {x : DT} {x0 x1 x3 x4 x5 x6 : Option RV} (h : wfD x) : ∃ y3 y4 y5 y6, lawB [x0, x1, some (.p (embD x)), x3, x4, x5, x6] = some (.nx, [x0, x1, some (.p (embD x)), y3, y4, y5, y6]) := by
  have e1 := through_ok h.rows.1 h.rows.2
  have e2 := rows_of_ok h
  have e3 := calls_of_ok h
  have e4 := comp_mc2 (x0 := x0) (x1 := x1) (x2 := some (.p (embD x))) (x3 := none) (x4 := x4) (x5 := x5) (x6 := x6) (flatRs x.rows)
  rw [flats_cls] at e4
  have okr := flats_okR 3 (Nat.le_refl _) x.rows h.rows.2
  have o1 := ok_rows okr
  have o2 := eq_rows okr
  have sk := cls_sok okr
  rw [flats_cls] at sk
  obtain ⟨o3, o4⟩ := ok_mcs sk
  have hf := flats_len x.rows h.rows.2
  have h5 := h.rows.1
  have hb : x.rows.length * fl 3 ≤ 5 * fl 3 := Nat.mul_le_mul_right _ h5
  have hb2 : 5 * fl 3 = 155 := rfl
  have hsl := sizeLine_eq
  have hfl := List.length_filter_le isC (flatRs x.rows)
  have hc := flats_cls x.rows
  have hcl : (clsRs x.rows).length ≤ 155 := by rw [← hc]; simp; omega
  have z1 : (embRs (flatRs x.rows)).length ≤ sizeLine := by rw [embs_len]; omega
  have z2 : (embRs (flatRs x.rows)).length < sizeLine := by rw [embs_len]; omega
  have z3 : ((clsRs x.rows).map mcD).length < sizeLine := by simp; omega
  have zz : (2 : Nat) ≤ sizeLine := by decide
  have tx : embD x = .tup [.str x.nm, .tup (x.ps.map .str), tupRs x.rows, emb x.give] := rfl
  have ax : gIx (.p (embD x)) (.p (.int 2)) = some (.p (tupRs x.rows)) := rfl
  refine ⟨some (.L (embRs (flatRs x.rows))), some (.L ((clsRs x.rows).map mcD)), some (.L (embRs (flatRs x.rows) ++ [.tup [.str "say", .tup [.str "number", .int 0]]])), some (.L (((clsRs x.rows).map mcD).reverse ++ [.non])), ?_⟩
  generalize embD x = X at *
  generalize embRs (flatRs x.rows) = F at *
  generalize (clsRs x.rows).map mcD = C at *
  simp only [lawB, e_seq, e_set]
  simp [ax, e1, fComp, fiSeq, e4, z1, e2, e3, o1, o2, o3, o4, isTy, z2, z3, zz]
theorem law_run {x0 x1 : Option RV} : ∀ (xs : List DT) (x2 x3 x4 x5 x6 : Option RV), (∀ x ∈ xs, wfD x) → ∃ y2 y3 y4 y5 y6, forD (gName' 1 2) lawB (xs.map embD) [x0, x1, x2, x3, x4, x5, x6] = some (.nx, [x0, x1, y2, y3, y4, y5, y6])
  | [], x2, x3, x4, x5, x6, _ => ⟨x2, x3, x4, x5, x6, rfl⟩
  | x :: xs, x2, x3, x4, x5, x6, h => by
    obtain ⟨a3, a4, a5, a6, e1⟩ := law_step (x := x) (x0 := x0) (x1 := x1) (x3 := x3) (x4 := x4) (x5 := x5) (x6 := x6) (h x (by simp))
    obtain ⟨y2, y3, y4, y5, y6, e2⟩ := law_run (x0 := x0) (x1 := x1) xs (some (.p (embD x))) a3 a4 a5 a6 fun y hy => h y (by simp [hy])
    refine ⟨y2, y3, y4, y5, y6, ?_⟩
    generalize lawB = B at *
    simp only [List.map_cons, forD, e_gName, e_setAt]
    simp [e1]
    simpa using e2
theorem law_true : ∀ ns : List Int, ns.length ≤ 63 → ∃ ys, FF_law [.p (.lst (ns.map D.int))] = some (.p (.bl true), ys) := by
  intro ns _
  obtain ⟨xs, e1, g⟩ := drawn_book (ns := ns)
  have e2 := made_ok g
  obtain ⟨y2, y3, y4, y5, y6, e3⟩ := law_run (x0 := some (.p (.lst (ns.map D.int)))) (x1 := some (.p (bookD xs))) xs none none none none none g.wf
  refine ⟨[.p (.lst (ns.map D.int))], ?_⟩
  unfold FF_law
  rw [law_eq]
  have ib : items (.p (bookD xs)) = some (xs.map embD) := rfl
  generalize lawB = B at *
  generalize bookD xs = Y at *
  simp [e1, e2, sFor, fiSeq, ib, e3]
end K08
open PySem PySem.W PyProof.Rows
set_option maxRecDepth 100000 in
set_option maxHeartbeats 0 in
theorem PySem.Challenge.cw_callfold_k08_rows_and_calls_read_holds : PySem.Challenge.rw_callfold_k08_rows_and_calls_read.Holds := by
  w_on; o_law; k_head; (case hw => w_witness2)
  k_fill
  refine L2.CF.walkD (l := PySem.Challenge.rw_callfold_k08_rows_and_calls_read) (k := 20) (F := K08.FF_law) rfl ⟨rfl, by decide, by decide⟩ rfl (fun w h Y => PySem.W.kIn_of Y) ?F K08.law_true
  case F =>
    intro w mg fa h KX G hmg
    refine' K08.all_mk KX G hmg ?a1 ?l1 ?c1 ?k1 ?a2 ?l2 ?c2 ?k2 ?a3 ?l3 ?c3 ?k3 ?a4 ?l4 ?c4 ?k4 ?a5 ?l5 ?c5 ?k5 ?a6 ?l6 ?c6 ?k6 ?a7 ?l7 ?c7 ?k7 ?a8 ?l8 ?c8 ?k8 ?a9 ?l9 ?c9 ?k9 ?a10 ?l10 ?c10 ?k10 ?a11 ?l11 ?c11 ?k11 ?a12 ?l12 ?c12 ?k12 ?a13 ?l13 ?c13 ?k13 ?a14 ?l14 ?c14 ?k14 ?a15 ?l15 ?c15 ?k15 ?a16 ?l16 ?c16 ?k16 ?a17 ?l17 ?c17 ?k17 ?a18 ?l18 ?c18 ?k18 ?a19 ?l19 ?c19 ?k19 ?a20 ?l20 ?c20 ?k20 ?a21 ?l21 ?c21 ?k21 ?a22 ?l22 ?c22 ?k22 ?a23 ?l23 ?c23 ?k23 ?a24 ?l24 ?c24 ?k24 ?z0 ?z1 ?z2 ?z3 ?z4 ?z5 ?z6 ?z7 ?z8
    (case a1 => k_is); (case l1 => k_is); (case c1 => k_is); (case k1 => k_is)
    (case a2 => k_is); (case l2 => k_is); (case c2 => k_is); (case k2 => k_is)
    (case a3 => k_is); (case l3 => k_is); (case c3 => k_is); (case k3 => k_is)
    (case a4 => k_is); (case l4 => k_is); (case c4 => k_is); (case k4 => k_is)
    (case a5 => k_is); (case l5 => k_is); (case c5 => k_is); (case k5 => k_is)
    (case a6 => k_is); (case l6 => k_is); (case c6 => k_is); (case k6 => k_is)
    (case a7 => k_is); (case l7 => k_is); (case c7 => k_is); (case k7 => k_is)
    (case a8 => k_is); (case l8 => k_is); (case c8 => k_is); (case k8 => k_is)
    (case a9 => k_is); (case l9 => k_is); (case c9 => k_is); (case k9 => k_is)
    (case a10 => k_is); (case l10 => k_is); (case c10 => k_is); (case k10 => k_is)
    (case a11 => k_is); (case l11 => k_is); (case c11 => k_is); (case k11 => k_is)
    (case a12 => k_is); (case l12 => k_is); (case c12 => k_is); (case k12 => k_is)
    (case a13 => k_is); (case l13 => k_is); (case c13 => k_is); (case k13 => k_is)
    (case a14 => k_is); (case l14 => k_is); (case c14 => k_is); (case k14 => k_is)
    (case a15 => k_is); (case l15 => k_is); (case c15 => k_is); (case k15 => k_is)
    (case a16 => k_is); (case l16 => k_is); (case c16 => k_is); (case k16 => k_is)
    (case a17 => k_is); (case l17 => k_is); (case c17 => k_is); (case k17 => k_is)
    (case a18 => k_is); (case l18 => k_is); (case c18 => k_is); (case k18 => k_is)
    (case a19 => k_is); (case l19 => k_is); (case c19 => k_is); (case k19 => k_is)
    (case a20 => k_is); (case l20 => k_is); (case c20 => k_is); (case k20 => k_is)
    (case a21 => k_is); (case l21 => k_is); (case c21 => k_is); (case k21 => k_is)
    (case a22 => k_is); (case l22 => k_is); (case c22 => k_is); (case k22 => k_is)
    (case a23 => k_is); (case l23 => k_is); (case c23 => k_is); (case k23 => k_is)
    (case a24 => k_is); (case l24 => k_is); (case c24 => k_is); (case k24 => k_is)
    (case z0 => k_is)
    (case z1 => k_is)
    (case z2 => k_is)
    (case z3 => k_is)
    (case z4 => k_is)
    (case z5 => k_is)
    (case z6 => k_is)
    (case z7 => k_is)
    (case z8 => k_is)
